"""What a name and a whole number are, for all that is handed in."""

LETTERS = "abcdefghijklmnopqrstuvwxyz"
LONGEST_NAME = 8


def is_name(thing):
    """Tell whether a thing of any kind is a name."""
    if not isinstance(thing, str) or not 1 <= len(thing) <= LONGEST_NAME:
        return False
    # Python's own islower takes letters beyond a to z, too.
    return all([letter in LETTERS for letter in thing])


def is_whole(thing):
    """Tell whether a thing of any kind is a whole number."""
    return isinstance(thing, int) and not isinstance(thing, bool)
