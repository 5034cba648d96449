"""Things that are no names, no dicts and no trees, for the tests of refusals."""

import unittest

from stepposts.errors import PostError


class Sly:
    """Is equal to all, and stands for a name where a dict looks it up."""

    def __eq__(self, other):
        return True

    def __hash__(self):
        return hash("a")


class UnderList(list):
    """Is no list alone."""


class UnderTuple(tuple):
    """Is no tuple alone."""


# Of every kind but texts and dicts.
OTHER_KINDS = [
    None, True, False, 0, 1, -1, 10 ** 30, 1.5, float("nan"), 1j,
    b"", b"a", bytearray(b"a"), [], ["a"], [["a", None]], (), ("a",), (("a", None),),
    set(), {"a"}, frozenset(), frozenset({"a"}), range(3), slice(1), iter(()),
    object(), Sly(), str, dict, len, lambda: "a", Ellipsis, NotImplemented, ValueError("a"),
]

# Texts that are no names.
OTHER_TEXTS = [
    "", "abcdefghi", "a" * 1000, "A", "aB", "ABC", " ", "a ", " a", "a b", "a\n", "\n", "\x00", "a\x00",
    "1", "a1", "_", "a_b", "a-b", "a.b", "`", "{", "@", "[", "\u00e4", "\u00df", "\u0430", "\u03b1",
    "\uff41", "\u00aa", "a\u0301", "\ud800", "\U0001d41a",
]

NO_NAMES = OTHER_KINDS + [{}, {"a": None}] + OTHER_TEXTS

# Truths and all else that is no whole number, and whole numbers below 0.
NO_WHOLES = [thing for thing in NO_NAMES if not isinstance(thing, int) or isinstance(thing, bool)]
BELOW_NONE = [-1, -2, -1000, -10 ** 59]

NAMES = ["a", "z", "m", "abcdefgh", "ijklmnop", "qrstuvwx", "yz", "zzzzzzzz", "none", "true"]


def can_be_key(thing):
    """Tell whether a dict takes the thing as a key."""
    try:
        hash(thing)
    except TypeError:
        return False
    return True


class RefusalCase(unittest.TestCase):
    def assert_refused(self, kind, ask, *args, **named):
        """Assert that asking is refused by this class, and not by one under it."""
        with self.assertRaises(PostError) as caught:
            ask(*args, **named)
        self.assertIs(type(caught.exception), kind)

    def assert_all_refused(self, kind, ask, things):
        for thing in things:
            with self.subTest(thing=repr(thing)):
                self.assert_refused(kind, ask, thing)
