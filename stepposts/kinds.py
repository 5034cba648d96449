"""What names, whole numbers, lists and tuples are, for all that is handed in."""

LETTERS = "abcdefghijklmnopqrstuvwxyz"
LONGEST_NAME = 8


def is_name(thing):
    """Tell whether a thing of any kind is a name."""
    if not isinstance(thing, str) or not 1 <= len(thing) <= LONGEST_NAME:
        return False
    # Python's own islower takes letters beyond a to z, too.
    return all([letter in LETTERS for letter in thing])


def is_whole(thing):
    """Tell whether a thing of any kind is a whole number."""
    return isinstance(thing, int) and not isinstance(thing, bool)


def is_list(thing):
    """Tell whether a thing of any kind is a list."""
    # A list is a list alone: what a class under it makes of its items is not known.
    return type(thing) is list


def is_tuple(thing, length):
    """Tell whether a thing of any kind is a tuple of this length."""
    return type(thing) is tuple and len(thing) == length
