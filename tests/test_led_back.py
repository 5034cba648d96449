"""Point 18: the orderly standing a year ahead."""

import random
import unittest

from cases import any_tree, brush, all_small, orderly_standing, standing_of
from odd_things import NAMES, NO_NAMES, OTHER_KINDS, OTHER_TEXTS, RefusalCase, Sly
from plain_walk import is_orderly_plain
from shapes import ALONE, CHAIN, STAR, STEPS, bush, chain, name_of, star
from stepposts.errors import NoFolk, NoStanding, NoTree
from stepposts.patterns import led_back
from stepposts.standing import is_orderly, next_year
from stepposts.tree import Tree

LARGE = [chain(100), star(100), bush(100, 2), bush(100, 3), brush(100), any_tree(random.Random(81), 100)]


class LedBack(unittest.TestCase):
    def assert_led_back(self, above_by, standing):
        tree = Tree(above_by)
        told = led_back(tree, standing, "went")
        self.assertTrue(is_orderly(tree, told))
        self.assertEqual(told[0], ("went", tree.head()))
        later = next_year(tree, told)
        self.assertEqual(later[:-1], standing[:-1])
        self.assertEqual(later[-1], ((1, 0), standing[-1][1]))
        return told

    def test_by_hand(self):
        tree = Tree({"a": None, "b": "a", "c": "a", "d": "b"})
        standing = [("w", "a"), ("x", "b"), ("y", "c"), ("z", "d")]
        self.assertEqual(led_back(tree, standing, "v"), [("v", "a"), ("w", "b"), ("x", "d"), ("y", "c")])
        standing = [("w", "a"), ("x", "b"), ("y", "d"), ("z", "c")]
        self.assertEqual(led_back(tree, standing, "a"), [("a", "a"), ("w", "c"), ("x", "b"), ("y", "d")])
        self.assertEqual(led_back(folk="z", standing=[("x", "a")], tree=Tree(ALONE)), [("z", "a")])

    def test_one_post_alone(self):
        self.assertEqual(led_back(Tree(ALONE), [("x", "a")], "y"), [("y", "a")])

    def test_all_orderly_standings_of_small_trees(self):
        for above_by, standing in all_small():
            if is_orderly_plain(above_by, standing):
                self.assert_led_back(above_by, standing)

    def test_it_is_the_only_one(self):
        led = {}
        for above_by, standing in all_small():
            if is_orderly_plain(above_by, standing):
                tree = tuple(sorted(above_by.items(), key=str))
                pattern = tuple(post for _, post in next_year(Tree(above_by), standing))
                self.assertNotIn((tree, pattern), led)
                led[tree, pattern] = [post for _, post in standing]
        for (tree, pattern), posts in led.items():
            told = led_back(Tree(dict(tree)), standing_of(pattern), "went")
            self.assertEqual([post for _, post in told], posts)

    def test_large_trees(self):
        chance = random.Random(82)
        for above_by in [CHAIN, STAR, STEPS, *LARGE]:
            for _ in range(5):
                self.assert_led_back(above_by, orderly_standing(chance, above_by))

    def test_many_years_back_and_on_again(self):
        chance = random.Random(83)
        for above_by in [STEPS, bush(30, 2), brush(20)]:
            tree = Tree(above_by)
            standing = orderly_standing(chance, above_by)
            kept = [post for _, post in standing]
            for year in range(50):
                standing = self.assert_led_back(above_by, standing)
                standing = standing_of([post for _, post in standing])
            for year in range(50):
                standing = standing_of([post for _, post in next_year(tree, standing)])
            self.assertEqual([post for _, post in standing], kept)

    def test_kinds_and_lists_of_ones_own(self):
        tree = Tree(STEPS)
        standing = orderly_standing(random.Random(84), STEPS)
        given = list(standing)
        told = led_back(tree, standing, "went")
        kept = list(told)
        self.assertIs(type(told), list)
        self.assertEqual({type(row) for row in told}, {tuple})
        told.clear()
        self.assertEqual(led_back(tree, standing, "went"), kept)
        self.assertEqual(standing, given)

    def test_calls_go_no_deeper_with_a_longer_chain(self):
        posts = [name_of(at) for at in range(2000)]
        standing = [(name_of(9000 + at), post) for at, post in enumerate(posts)]
        told = led_back(Tree(chain(2000)), standing, "went")
        self.assertEqual([post for _, post in told], posts)

    def test_who_comes_again_may_have_the_name_of_who_went_or_of_a_post(self):
        tree = Tree(CHAIN)
        standing = standing_of("dbac")
        for folk in ["a", "d", *NAMES]:
            self.assertEqual(led_back(tree, standing, folk)[0], (folk, "d"))


class Refusals(RefusalCase):
    def test_what_is_no_orderly_standing_goes_ahead_of_folk(self):
        for above_by, standing in all_small():
            if not is_orderly_plain(above_by, standing):
                self.assert_refused(NoStanding, led_back, Tree(above_by), standing, "went")
                self.assert_refused(NoStanding, led_back, Tree(above_by), standing, standing[0][0])
                self.assert_refused(NoStanding, led_back, folk=None, standing=standing, tree=Tree(above_by))

    def test_what_is_no_standing(self):
        for thing in OTHER_KINDS + OTHER_TEXTS + NAMES + [{}, [((1, 0), "a")], (("x", "a"),), [["x", "a"]]]:
            with self.subTest(thing=repr(thing)):
                for folk in ["went", "x", None, [], 5]:
                    self.assert_refused(NoStanding, led_back, Tree(ALONE), thing, folk)

    def test_what_is_no_name(self):
        for thing in NO_NAMES + [(1, 0), ("went",), ["went"]]:
            with self.subTest(thing=repr(thing)):
                self.assert_refused(NoFolk, led_back, Tree(CHAIN), standing_of("dbac"), thing)
                self.assert_refused(NoFolk, led_back, Tree(ALONE), [("x", "a")], folk=thing)

    def test_a_name_that_stands_there(self):
        for above_by in [CHAIN, STAR, STEPS, bush(100, 2)]:
            standing = orderly_standing(random.Random(85), above_by)
            for folk, _ in standing:
                self.assert_refused(NoFolk, led_back, Tree(above_by), standing, folk)
        self.assert_refused(NoFolk, led_back, Tree(ALONE), [("x", "a")], "x")

    def test_what_is_no_tree_goes_first(self):
        for thing in OTHER_KINDS + OTHER_TEXTS + NAMES + [{}, ALONE, Tree]:
            with self.subTest(thing=repr(thing)):
                for standing in [[("x", "a")], [], None, Sly()]:
                    for folk in ["went", "x", None]:
                        self.assert_refused(NoTree, led_back, thing, standing, folk)
                        self.assert_refused(NoTree, led_back, folk=folk, standing=standing, tree=thing)


if __name__ == "__main__":
    unittest.main()
