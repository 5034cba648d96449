import unittest

from stepposts import errors
from stepposts.errors import NoDeeds, NoFolk, NoPost, NoStanding, NoTree, NoWords, NoYear, PostError

REFUSALS = [NoTree, NoPost, NoStanding, NoYear, NoDeeds, NoFolk, NoWords]


class Refusals(unittest.TestCase):
    def test_all_stand_straight_under_post_error(self):
        for refusal in REFUSALS:
            with self.subTest(refusal=refusal.__name__):
                self.assertEqual(refusal.__bases__, (PostError,))

    def test_post_error_stands_straight_under_value_error(self):
        self.assertEqual(PostError.__bases__, (ValueError,))

    def test_none_stands_under_another_one(self):
        for one in REFUSALS:
            for other in REFUSALS:
                self.assertIs(issubclass(one, other), one is other)

    def test_each_may_be_made_of_a_text(self):
        for refusal in REFUSALS + [PostError]:
            with self.subTest(refusal=refusal.__name__):
                self.assertEqual(str(refusal("no such thing")), "no such thing")
                with self.assertRaises(PostError):
                    raise refusal("")

    def test_each_is_defined_in_its_file_under_its_name(self):
        for refusal in REFUSALS + [PostError]:
            self.assertEqual(refusal.__module__, "stepposts.errors")
            self.assertIs(getattr(errors, refusal.__name__), refusal)

    def test_there_are_no_others(self):
        found = [thing for thing in vars(errors).values() if isinstance(thing, type)]
        self.assertCountEqual(found, REFUSALS + [PostError])


if __name__ == "__main__":
    unittest.main()
