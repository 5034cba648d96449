import unittest

from odd_things import NAMES, NO_NAMES, UnderList, UnderTuple
from stepposts.kinds import is_list, is_name, is_tuple, is_whole


class Names(unittest.TestCase):
    def test_one_to_eight_small_letters_are_a_name(self):
        for thing in NAMES:
            with self.subTest(thing=thing):
                self.assertIs(is_name(thing), True)

    def test_each_small_letter_alone_is_a_name_and_no_other_sign(self):
        for number in range(0x3000):
            sign = chr(number)
            self.assertIs(is_name(sign), "a" <= sign <= "z", sign)
            self.assertIs(is_name("a" + sign + "b"), "a" <= sign <= "z", sign)

    def test_lengths(self):
        for length in range(20):
            self.assertIs(is_name("q" * length), 1 <= length <= 8, length)

    def test_nothing_else_is_a_name(self):
        for thing in NO_NAMES:
            with self.subTest(thing=repr(thing)):
                self.assertIs(is_name(thing), False)


class WholeNumbers(unittest.TestCase):
    def test_ints_are_whole_numbers(self):
        for thing in [0, 1, -1, 7, 10 ** 60, -10 ** 60]:
            self.assertIs(is_whole(thing), True)

    def test_truths_are_none(self):
        self.assertIs(is_whole(True), False)
        self.assertIs(is_whole(False), False)

    def test_nothing_else_is_a_whole_number(self):
        for thing in NO_NAMES + NAMES + [1.0, 0.0, "1", [1], (1,)]:
            if type(thing) is not int:
                with self.subTest(thing=repr(thing)):
                    self.assertIs(is_whole(thing), False)


class ListsAndTuples(unittest.TestCase):
    def test_a_list_is_a_list_alone(self):
        for thing in [[], [1], [[]], ["a", None]]:
            self.assertIs(is_list(thing), True)
        for thing in NO_NAMES + NAMES + [UnderList(), UnderList(["a"]), UnderTuple()]:
            if type(thing) is not list:
                with self.subTest(thing=repr(thing)):
                    self.assertIs(is_list(thing), False)

    def test_a_tuple_is_a_tuple_alone_of_the_length(self):
        for thing in [(), (1,), ("a", None), (1, 2, 3)]:
            for length in range(5):
                self.assertIs(is_tuple(thing, length), len(thing) == length)
        for thing in NO_NAMES + NAMES + [UnderTuple(), UnderTuple("a"), UnderTuple("ab"), UnderList("ab")]:
            if type(thing) is not tuple:
                for length in range(3):
                    with self.subTest(thing=repr(thing), length=length):
                        self.assertIs(is_tuple(thing, length), False)


if __name__ == "__main__":
    unittest.main()
