"""Things that are no names, no dicts and no trees, for the tests of refusals."""


class Sly:
    """Is equal to all, and stands for a name where a dict looks it up."""

    def __eq__(self, other):
        return True

    def __hash__(self):
        return hash("a")


# Of every kind but texts and dicts.
OTHER_KINDS = [
    None, True, False, 0, 1, -1, 10 ** 30, 1.5, float("nan"), 1j,
    b"", b"a", bytearray(b"a"), [], ["a"], [["a", None]], (), ("a",), (("a", None),),
    set(), {"a"}, frozenset(), frozenset({"a"}), range(3), slice(1), iter(()),
    object(), Sly(), str, dict, len, lambda: "a", Ellipsis, NotImplemented, ValueError("a"),
]

# Texts that are no names.
OTHER_TEXTS = [
    "", "abcdefghi", "a" * 1000, "A", "aB", "ABC", " ", "a ", " a", "a b", "a\n", "\n", "\x00", "a\x00",
    "1", "a1", "_", "a_b", "a-b", "a.b", "`", "{", "@", "[", "\u00e4", "\u00df", "\u0430", "\u03b1",
    "\uff41", "\u00aa", "a\u0301", "\ud800", "\U0001d41a",
]

NO_NAMES = OTHER_KINDS + [{}, {"a": None}] + OTHER_TEXTS

NAMES = ["a", "z", "m", "abcdefgh", "ijklmnop", "qrstuvwx", "yz", "zzzzzzzz", "none", "true"]


def can_be_key(thing):
    """Tell whether a dict takes the thing as a key."""
    try:
        hash(thing)
    except TypeError:
        return False
    return True
