import copy
import unittest

from odd_things import NAMES, NO_NAMES, OTHER_KINDS, can_be_key
from shapes import ALONE, CHAIN, ORDINARY, STAR, STEPS
from shapes import all_dicts, bush, chain, is_tree, name_of, small_trees, star, way_up
from stepposts.errors import NoPost, NoTree, PostError
from stepposts.tree import Tree


def told(tree):
    """Give all that a tree tells."""
    posts = tree.posts()
    each = [(tree.above(post), tree.below(post), tree.branch(post), tree.size(post)) for post in posts]
    return tree.head(), posts, each


def told_by(above_by):
    """Give all that a tree should tell, straight from the dict."""
    posts = sorted(above_by)
    branches = {post: [one for one in posts if post in way_up(above_by, one)] for post in posts}
    each = [
        (above_by[post], [one for one in posts if above_by[one] == post], branches[post], len(branches[post]))
        for post in posts
    ]
    return [post for post in posts if above_by[post] is None][0], posts, each


class Told(unittest.TestCase):
    def test_one_post_alone(self):
        tree = Tree(ALONE)
        self.assertEqual(tree.head(), "a")
        self.assertEqual(tree.posts(), ["a"])
        self.assertIsNone(tree.above("a"))
        self.assertEqual(tree.below("a"), [])
        self.assertEqual(tree.branch("a"), ["a"])
        self.assertEqual(tree.size("a"), 1)

    def test_a_chain(self):
        tree = Tree(CHAIN)
        self.assertEqual(tree.head(), "d")
        self.assertEqual(tree.posts(), ["a", "b", "c", "d"])
        self.assertEqual([tree.above(post) for post in "abcd"], ["b", "d", "a", None])
        self.assertEqual([tree.below(post) for post in "abcd"], [["c"], ["a"], [], ["b"]])
        self.assertEqual(tree.branch("b"), ["a", "b", "c"])
        self.assertEqual(tree.branch("d"), ["a", "b", "c", "d"])
        self.assertEqual([tree.size(post) for post in "abcd"], [2, 3, 1, 4])

    def test_all_others_right_below_the_head(self):
        tree = Tree(STAR)
        self.assertEqual(tree.head(), "m")
        self.assertEqual(tree.posts(), ["a", "e", "m", "q", "z"])
        self.assertEqual(tree.below("m"), ["a", "e", "q", "z"])
        self.assertEqual(tree.branch("m"), ["a", "e", "m", "q", "z"])
        self.assertEqual(tree.branch("q"), ["q"])
        self.assertEqual(tree.size("m"), 5)
        self.assertEqual(tree.above("z"), "m")

    def test_several_steps(self):
        tree = Tree(STEPS)
        self.assertEqual(tree.head(), "root")
        self.assertEqual(tree.posts(), ["aa", "ab", "b", "c", "d", "f", "g", "h", "k", "root"])
        self.assertEqual(tree.below("root"), ["b", "c"])
        self.assertEqual(tree.below("c"), ["aa", "h"])
        self.assertEqual(tree.branch("c"), ["aa", "ab", "c", "g", "h", "k"])
        self.assertEqual(tree.branch("h"), ["ab", "g", "h", "k"])
        self.assertEqual(tree.size("c"), 6)
        self.assertEqual(tree.size("root"), 10)
        self.assertEqual(tree.above("g"), "k")

    def test_a_branch_is_in_order_and_not_from_above(self):
        tree = Tree({"z": None, "y": "z", "b": "y", "x": "z", "a": "x"})
        self.assertEqual(tree.branch("z"), ["a", "b", "x", "y", "z"])

    def test_short_names_come_ahead_of_longer_ones_they_begin(self):
        self.assertEqual(Tree({"ab": None, "b": "ab", "a": "ab", "aaaaaaaa": "ab"}).below("ab"), ["a", "aaaaaaaa", "b"])

    def test_ordinary_trees_of_up_to_a_hundred_posts(self):
        for above_by in ORDINARY:
            with self.subTest(many=len(above_by)):
                self.assertEqual(told(Tree(above_by)), told_by(above_by))

    def test_all_trees_of_up_to_four_posts(self):
        for above_by in small_trees():
            self.assertEqual(told(Tree(above_by)), told_by(above_by), above_by)

    def test_a_hundred_posts(self):
        names = [name_of(number) for number in range(100)]
        self.assertEqual(len(set(names)), 100)
        tree = Tree(chain(100))
        self.assertEqual(tree.size(names[0]), 100)
        self.assertEqual(tree.branch(names[0]), sorted(names))
        self.assertEqual(tree.branch(names[98]), sorted(names[98:]))
        self.assertEqual(tree.size(names[50]), 50)
        self.assertEqual(Tree(star(100)).below(names[0]), sorted(names[1:]))

    def test_more_than_a_hundred_posts_are_no_fault(self):
        for above_by in [chain(1500), star(1500)]:
            tree = Tree(above_by)
            self.assertEqual(tree.size(name_of(0)), 1500)
            self.assertEqual(tree.branch(name_of(0)), sorted(above_by))

    def test_all_names_may_be_posts(self):
        tree = Tree({post: None if post == "none" else "none" for post in NAMES})
        self.assertEqual(tree.posts(), sorted(NAMES))

    def test_other_orders_of_the_dict_tell_the_same(self):
        for above_by in [CHAIN, STAR, STEPS, bush(100, 3)]:
            items = list(above_by.items())
            for order in [items[::-1], sorted(items), sorted(items)[::-1], items[3:] + items[:3]]:
                self.assertEqual(told(Tree(dict(order))), told(Tree(above_by)))

    def test_kinds_of_what_is_told(self):
        tree = Tree(STEPS)
        self.assertIs(type(tree.head()), str)
        self.assertIs(type(tree.above("h")), str)
        self.assertIs(type(tree.size("h")), int)
        for rows in [tree.posts(), tree.below("c"), tree.below("g"), tree.branch("c")]:
            self.assertIs(type(rows), list)


class Interface(unittest.TestCase):
    def test_arguments_by_their_names(self):
        tree = Tree(above_by=CHAIN)
        self.assertEqual(tree.above(post="a"), "b")
        self.assertEqual(tree.below(post="a"), ["c"])
        self.assertEqual(tree.branch(post="a"), ["a", "c"])
        self.assertEqual(tree.size(post="a"), 2)

    def test_tree_is_defined_in_its_file_and_has_its_own_methods(self):
        self.assertEqual(Tree.__module__, "stepposts.tree")
        for name in ["head", "posts", "above", "below", "branch", "size"]:
            self.assertIn(name, vars(Tree))


class NothingChanges(unittest.TestCase):
    def test_told_lists_are_the_askers_own(self):
        tree = Tree(STEPS)
        for ask in [tree.posts, lambda: tree.below("root"), lambda: tree.below("g"), lambda: tree.branch("c")]:
            first = ask()
            kept = list(first)
            self.assertIsNot(first, ask())
            first.append("zz")
            self.assertEqual(ask(), kept)
            first.clear()
            self.assertEqual(ask(), kept)
            ask().reverse()
            self.assertEqual(told(tree), told_by(STEPS))
        self.assertEqual(tree, Tree(STEPS))

    def test_the_dict_changed_behind_the_making_changes_nothing(self):
        above_by = dict(STEPS)
        tree = Tree(above_by)
        above_by["zz"] = "root"
        above_by["h"] = "b"
        del above_by["g"]
        self.assertEqual(told(tree), told_by(STEPS))
        self.assertEqual(tree, Tree(STEPS))
        above_by.clear()
        self.assertEqual(told(tree), told_by(STEPS))
        self.assertEqual(tree, Tree(STEPS))
        with self.assertRaises(NoPost):
            tree.size("zz")

    def test_what_is_handed_in_stays_as_it_was(self):
        for given in [ALONE, CHAIN, STAR, STEPS]:
            above_by = dict(given)
            told(Tree(above_by))
            self.assertEqual(list(above_by.items()), list(given.items()))

    def test_what_is_refused_stays_as_it_was(self):
        for given in [{}, {"a": None, "b": None}, {"a": "b", "b": "a"}, {"a": ["b"]}, {"a": {}}, {"A": None}]:
            above_by = copy.deepcopy(given)
            with self.assertRaises(NoTree):
                Tree(above_by)
            self.assertEqual(list(above_by.items()), list(given.items()))
        rows = ["a"]
        with self.assertRaises(NoPost):
            Tree(ALONE).size(rows)
        self.assertEqual(rows, ["a"])

    def test_asking_and_refusals_change_no_tree(self):
        tree = Tree(STEPS)
        for _ in range(2):
            for post in ["zz", None, "", []]:
                with self.assertRaises(NoPost):
                    tree.branch(post)
            self.assertEqual(told(tree), told_by(STEPS))
            self.assertEqual(tree, Tree(STEPS))


class Equal(unittest.TestCase):
    def assert_equal_both_ways(self, one, other):
        for left, right in [(one, other), (other, one)]:
            self.assertIs(left == right, True)
            self.assertIs(left != right, False)

    def assert_unlike_both_ways(self, one, other):
        for left, right in [(one, other), (other, one)]:
            self.assertIs(left == right, False)
            self.assertIs(left != right, True)

    def test_the_same_posts_with_the_same_above_in_any_order(self):
        for above_by in ORDINARY:
            items = list(above_by.items())
            for order in [items, items[::-1], sorted(items)]:
                self.assert_equal_both_ways(Tree(above_by), Tree(dict(order)))
        tree = Tree(STEPS)
        self.assert_equal_both_ways(tree, tree)

    def test_one_post_otherwise(self):
        self.assert_unlike_both_ways(Tree(STEPS), Tree({**STEPS, "g": "h"}))
        self.assert_unlike_both_ways(Tree(STEPS), Tree({**STEPS, "h": "b"}))
        self.assert_unlike_both_ways(Tree({"a": None}), Tree({"b": None}))
        self.assert_unlike_both_ways(Tree({"a": None, "b": "a"}), Tree({"b": None, "a": "b"}))
        self.assert_unlike_both_ways(Tree({"a": None, "b": "a"}), Tree({"a": None, "c": "a"}))

    def test_one_post_more_and_one_less(self):
        self.assert_unlike_both_ways(Tree(STEPS), Tree({**STEPS, "zz": "root"}))
        less = {post: above for post, above in STEPS.items() if post != "g"}
        self.assert_unlike_both_ways(Tree(STEPS), Tree(less))
        self.assert_unlike_both_ways(Tree(chain(100)), Tree(chain(99)))

    def test_all_trees_of_up_to_four_posts(self):
        trees = [(above_by, Tree(above_by)) for above_by in small_trees()]
        for above_by, tree in trees:
            for other_by, other in trees:
                self.assertIs(tree == other, above_by == other_by)
                self.assertIs(tree != other, above_by != other_by)

    def test_what_is_no_tree_is_equal_to_none(self):
        for above_by in [ALONE, STEPS]:
            tree = Tree(above_by)
            for thing in NO_NAMES + NAMES + [above_by, list(above_by), list(above_by.items()), told(tree), Tree]:
                self.assertIs(tree == thing, False)
                self.assertIs(tree != thing, True)


class NoTrees(unittest.TestCase):
    def assert_no_tree(self, above_by):
        with self.assertRaises(PostError) as caught:
            Tree(above_by)
        self.assertIs(type(caught.exception), NoTree)

    def test_what_is_no_dict(self):
        for thing in OTHER_KINDS + NAMES + ["", Tree, Tree(ALONE)]:
            with self.subTest(thing=repr(thing)):
                self.assert_no_tree(thing)

    def test_an_empty_dict(self):
        self.assert_no_tree({})

    def test_a_post_that_is_no_name(self):
        for thing in NO_NAMES:
            if can_be_key(thing):
                with self.subTest(thing=repr(thing)):
                    self.assert_no_tree({thing: None})
                    self.assert_no_tree({"b": None, thing: "b"})
                    self.assert_no_tree({thing: "b", "b": None})

    def test_one_right_above_that_is_no_name(self):
        for thing in NO_NAMES:
            if thing is not None:
                with self.subTest(thing=repr(thing)):
                    self.assert_no_tree({"a": thing})
                    self.assert_no_tree({"a": None, "b": thing})
                    self.assert_no_tree({"b": thing, "a": None})
                    self.assert_no_tree({"a": None, "b": "a", "c": thing})

    def test_one_no_name_that_others_stand_below(self):
        for thing in ["", "A", "abcdefghi", "a1", 1, True, ("a",)]:
            self.assert_no_tree({thing: None, "b": thing})
            self.assert_no_tree({"a": None, thing: "a", "b": thing})

    def test_one_right_above_that_is_no_post(self):
        self.assert_no_tree({"a": "b"})
        self.assert_no_tree({"a": None, "b": "c"})
        self.assert_no_tree({"b": "c", "a": None})
        self.assert_no_tree({**STEPS, "g": "none"})

    def test_no_head(self):
        self.assert_no_tree({"a": "a"})
        self.assert_no_tree({"a": "b", "b": "a"})
        self.assert_no_tree({**CHAIN, "d": "c"})

    def test_two_heads(self):
        self.assert_no_tree({"a": None, "b": None})
        self.assert_no_tree({"a": None, "b": "a", "c": None, "d": "c"})
        self.assert_no_tree({**STEPS, "g": None})
        self.assert_no_tree({post: None for post in bush(100, 2)})

    def test_posts_that_lead_round_by_themselves(self):
        self.assert_no_tree({"a": None, "b": "c", "c": "b"})
        self.assert_no_tree({"b": "c", "c": "d", "d": "b", "a": None})
        self.assert_no_tree({"a": None, "b": "c", "c": "b", "d": "c"})
        self.assert_no_tree({**STEPS, "h": "g"})
        long = chain(100)
        self.assert_no_tree({**long, name_of(1): name_of(99)})

    def test_one_right_above_itself(self):
        self.assert_no_tree({"a": None, "b": "b"})
        self.assert_no_tree({"b": "b", "a": None, "c": "b"})

    def test_all_dicts_of_up_to_four_posts(self):
        for posts in ["a", "ab", "abc", "abcd"]:
            for above_by in all_dicts(posts, [None, "zz", *posts]):
                if is_tree(above_by):
                    self.assertEqual(Tree(above_by).posts(), list(posts))
                else:
                    self.assert_no_tree(above_by)


class NoPosts(unittest.TestCase):
    def assert_no_post(self, tree, post):
        for ask in [tree.above, tree.below, tree.branch, tree.size]:
            with self.assertRaises(PostError) as caught:
                ask(post)
            self.assertIs(type(caught.exception), NoPost)

    def test_names_that_are_no_post_of_the_tree(self):
        for above_by in ORDINARY:
            tree = Tree(above_by)
            for post in ["zz", "none", "abcdefgh", "rootroot", "roo"]:
                self.assert_no_post(tree, post)

    def test_things_that_are_no_names(self):
        for above_by in [ALONE, STEPS, bush(100, 2)]:
            tree = Tree(above_by)
            for thing in NO_NAMES + [["root"], {"root": None}, tree, Tree]:
                with self.subTest(thing=repr(thing)):
                    self.assert_no_post(tree, thing)

    def test_what_is_right_above_the_head_is_no_post(self):
        tree = Tree(CHAIN)
        self.assert_no_post(tree, tree.above("d"))


if __name__ == "__main__":
    unittest.main()
