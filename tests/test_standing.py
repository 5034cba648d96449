import copy
import random
import unittest

from cases import all_small, any_standing, any_tree, folk_names, orderly_standing, some_large, standing_of
from odd_things import NAMES, NO_NAMES, OTHER_KINDS, OTHER_TEXTS, RefusalCase, Sly, UnderList, UnderTuple
from plain_walk import PlainWalk, is_orderly_plain
from shapes import ALONE, CHAIN, STAR, STEPS, bush, chain, name_of, star
from stepposts.course import Course
from stepposts.errors import NoStanding, NoTree
from stepposts.patterns import led_back
from stepposts.standing import is_orderly, next_year
from stepposts.tree import Tree

# (tree, standing) that are no standing of the tree of "a" with "b" right below it.
PAIR = {"a": None, "b": "a"}
NO_STANDINGS = [
    [], [("x", "a")], [("x", "b")], [("x", "a"), ("y", "b"), ("z", "a")], [("x", "a"), ("y", "b"), ("x", "b")],
    [("x", "a"), ("y", "a")], [("x", "b"), ("y", "b")], [("x", "a"), ("x", "b")], [("x", "a"), ("y", "c")],
    [("x", "a"), ("y", "b"), ("z", "c")], [("x", "a"), ("y", "B")], [("x", "a"), ("y", "")],
    (("x", "a"), ("y", "b")), {"x": "a", "y": "b"}, {("x", "a"): 1, ("y", "b"): 2}, {("x", "a"), ("y", "b")},
    frozenset([("x", "a"), ("y", "b")]), iter([("x", "a"), ("y", "b")]), ["xa", "yb"], [b"xa", b"yb"],
    [["x", "a"], ["y", "b"]], [("x", "a"), ["y", "b"]], [{"x": "a"}, ("y", "b")], [("x", "a"), "yb"],
    [("x", "a"), {"y", "b"}], [("x", "a"), {"y": 1, "b": 2}], [("x", "a"), ("y", "b", "b")], [("x", "a"), ("y",)],
    [("x", "a"), ()], [("x", "a"), None], [("x", "a"), 5], [("x", "a"), ("y", "b"), None],
    [("x", "a"), ((1, 0), "b")], [((1, 0), "a"), ("y", "b")], [("x", "a"), ((0, 1), "b")],
    UnderList([("x", "a"), ("y", "b")]), [("x", "a"), UnderTuple(("y", "b"))],
    [("x", ["a"]), ("y", "b")], [(["x"], "a"), ("y", "b")], [("x", {"a": 1}), ({}, "b")],
]


class Orderly(unittest.TestCase):
    def test_all_standings_of_small_trees(self):
        for above_by, standing in all_small():
            self.assertIs(is_orderly(Tree(above_by), standing), is_orderly_plain(above_by, standing))

    def test_by_hand(self):
        tree = Tree({"a": None, "b": "a", "c": "b", "d": "a"})
        self.assertIs(is_orderly(tree, standing_of("abcd")), True)
        self.assertIs(is_orderly(tree, standing_of("adbc")), True)
        self.assertIs(is_orderly(tree, standing_of("acbd")), False)
        self.assertIs(is_orderly(tree, standing_of("bacd")), False)
        # Farther above, and not right above.
        self.assertIs(is_orderly(tree, standing_of("cbad")), False)

    def test_one_post_alone(self):
        self.assertIs(is_orderly(Tree(ALONE), [("x", "a")]), True)

    def test_large_trees(self):
        chance = random.Random(21)
        for above_by in [chain(100), star(100), bush(100, 2), bush(100, 3), any_tree(chance, 100)]:
            tree = Tree(above_by)
            standing = orderly_standing(chance, above_by)
            self.assertIs(is_orderly(tree, standing), True)
            posts = [post for _, post in standing]
            self.assertIs(is_orderly(tree, standing_of(posts[::-1])), False)
            for at in range(99):
                swapped = standing_of([*posts[:at], posts[at + 1], posts[at], *posts[at + 2:]])
                self.assertIs(is_orderly(tree, swapped), above_by[posts[at + 1]] != posts[at])

    def test_folk_may_have_any_names(self):
        self.assertIs(is_orderly(Tree(PAIR), [("b", "a"), ("a", "b")]), True)
        self.assertIs(is_orderly(Tree(PAIR), [("zzzzzzzz", "a"), ("a", "b")]), True)
        self.assertIs(is_orderly(Tree(PAIR), [("leave", "b"), ("none", "a")]), False)


class NextYear(unittest.TestCase):
    def test_by_hand(self):
        tree = Tree({"a": None, "b": "a", "c": "a", "d": "b", "e": "b"})
        standing = [("v", "e"), ("w", "c"), ("x", "b"), ("y", "d"), ("z", "a")]
        # The head's z goes; of w and x, that stand right below, w has served longer.
        self.assertEqual(next_year(tree, standing), [("v", "e"), ("w", "a"), ("x", "b"), ("y", "d"), ((1, 0), "c")])
        standing = [("v", "e"), ("w", "a"), ("x", "b"), ("y", "d"), ("z", "c")]
        self.assertEqual(next_year(tree, standing), [("v", "b"), ("x", "a"), ("y", "d"), ("z", "c"), ((1, 0), "e")])

    def test_one_post_alone(self):
        self.assertEqual(next_year(Tree(ALONE), [("x", "a")]), [((1, 0), "a")])

    def test_all_standings_of_small_trees(self):
        for above_by, standing in all_small():
            walk = PlainWalk(above_by, standing, [], 1)
            self.assertEqual(next_year(Tree(above_by), standing), walk.standings[1])

    def test_an_orderly_standing_is_orderly_the_year_behind(self):
        for above_by, standing in all_small():
            if is_orderly_plain(above_by, standing):
                self.assertTrue(is_orderly_plain(above_by, next_year(Tree(above_by), standing)))

    def test_large_trees(self):
        for above_by, standing, _ in some_large():
            walk = PlainWalk(above_by, standing, [], 1)
            told = next_year(Tree(above_by), standing)
            self.assertEqual(told, walk.standings[1])
            self.assertEqual(told, Course(Tree(above_by), standing).on_year(1))

    def test_kinds_of_what_is_told(self):
        told = next_year(Tree(STEPS), standing_of(sorted(STEPS)))
        self.assertIs(type(told), list)
        self.assertEqual({type(row) for row in told}, {tuple})
        self.assertEqual(told[-1][0], (1, 0))
        self.assertIs(type(told[-1][0]), tuple)

    def test_calls_go_no_deeper_with_a_longer_chain(self):
        above_by = chain(3000)
        posts = [name_of(number) for number in range(3000)]
        tree = Tree(above_by)
        standing = list(zip(folk_names(3000), posts))
        self.assertTrue(is_orderly(tree, standing))
        self.assertEqual(next_year(tree, standing)[-1], ((1, 0), posts[-1]))
        self.assertFalse(is_orderly(tree, standing[::-1]))


class NothingChanges(unittest.TestCase):
    def test_what_is_handed_in_stays_as_it_was(self):
        chance = random.Random(22)
        for above_by in [ALONE, CHAIN, STAR, STEPS]:
            tree = Tree(above_by)
            standing = any_standing(chance, above_by)
            kept = list(standing)
            is_orderly(tree, standing)
            next_year(tree, standing)
            self.assertEqual(standing, kept)
            self.assertEqual(tree, Tree(above_by))

    def test_what_is_told_is_the_askers_own(self):
        tree = Tree(STEPS)
        standing = standing_of(sorted(STEPS))
        told = next_year(tree, standing)
        kept = list(told)
        told.clear()
        self.assertEqual(next_year(tree, standing), kept)
        self.assertIsNot(next_year(Tree(ALONE), [("x", "a")]), next_year(Tree(ALONE), [("x", "a")]))


class Refusals(RefusalCase):
    def assert_no_standing(self, tree, standing):
        for ask in [is_orderly, next_year, Course]:
            self.assert_refused(NoStanding, ask, tree, standing)
            self.assert_refused(NoStanding, ask, tree=tree, standing=standing)
        self.assert_refused(NoStanding, led_back, tree, standing, "new")

    def test_what_is_no_standing(self):
        for standing in NO_STANDINGS + OTHER_KINDS + OTHER_TEXTS + NAMES + [{}, Tree(PAIR)]:
            with self.subTest(standing=repr(standing)):
                self.assert_no_standing(Tree(PAIR), standing)

    def test_an_empty_one_and_one_of_another_tree(self):
        for above_by in [ALONE, CHAIN, STAR, STEPS, chain(100)]:
            self.assert_no_standing(Tree(above_by), [])
            self.assert_no_standing(Tree(above_by), standing_of([*sorted(above_by), "other"]))
            self.assert_no_standing(Tree(above_by), standing_of(sorted(above_by)[:-1]))
            self.assert_no_standing(Tree(above_by), standing_of([*sorted(above_by)[:-1], "other"]))
            self.assert_no_standing(Tree(above_by), standing_of(sorted(above_by)) + [("other", sorted(above_by)[0])])

    def test_a_folk_that_is_no_name_or_twice(self):
        for thing in NO_NAMES:
            with self.subTest(thing=repr(thing)):
                self.assert_no_standing(Tree(PAIR), [(thing, "a"), ("y", "b")])
                self.assert_no_standing(Tree(PAIR), [("x", "a"), (thing, "b")])
        self.assert_no_standing(Tree(STAR), [("x", "a"), ("y", "e"), ("z", "m"), ("w", "q"), ("x", "z")])

    def test_a_post_that_is_no_name(self):
        for thing in NO_NAMES:
            with self.subTest(thing=repr(thing)):
                self.assert_no_standing(Tree(PAIR), [("x", thing), ("y", "b")])
                self.assert_no_standing(Tree(PAIR), [("x", "a"), ("y", thing)])
                self.assert_no_standing(Tree(ALONE), [("x", thing)])

    def test_a_row_that_is_no_tuple_of_two(self):
        for thing in NO_NAMES + ["xa", ["x", "a"], {"x": "a"}, ("x", "a", None), (("x", "a"),)]:
            with self.subTest(thing=repr(thing)):
                self.assert_no_standing(Tree(ALONE), [thing])
                self.assert_no_standing(Tree(PAIR), [thing, ("y", "b")])
                self.assert_no_standing(Tree(PAIR), [("x", "a"), ("y", "b"), thing])

    def test_told_ones_with_newcomers(self):
        told = next_year(Tree(STEPS), standing_of(sorted(STEPS)))
        self.assert_no_standing(Tree(STEPS), told)
        self.assert_no_standing(Tree(ALONE), [((1, 0), "a")])

    def test_what_is_no_tree_goes_first(self):
        for thing in OTHER_KINDS + OTHER_TEXTS + NAMES + [{}, PAIR, Tree, [Tree(PAIR)]]:
            with self.subTest(thing=repr(thing)):
                for standing in [standing_of("ab"), None, Sly(), [("x", "a")]]:
                    self.assert_refused(NoTree, is_orderly, thing, standing)
                    self.assert_refused(NoTree, next_year, thing, standing)
                    self.assert_refused(NoTree, next_year, standing=standing, tree=thing)

    def test_what_is_refused_stays_as_it_was(self):
        for given in NO_STANDINGS:
            if isinstance(given, (list, dict)):
                standing = copy.deepcopy(given)
                self.assert_no_standing(Tree(PAIR), standing)
                self.assertEqual(standing, given)


if __name__ == "__main__":
    unittest.main()
