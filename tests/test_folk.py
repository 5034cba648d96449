"""Points 11 to 14: holders and places, ways, newcomers' posts, and who stands above whom."""

import random
import unittest

from cases import all_small, any_deeds, any_standing, any_tree, brush, some_large, some_named, some_small, standing_of
from odd_things import BELOW_NONE, NAMES, NO_NAMES, NO_WHOLES, RefusalCase, Sly, UnderList, UnderTuple
from plain_walk import PlainWalk, all_below, in_branch_plain, over_plain, right_above_plain, way_plain
from shapes import ALONE, CHAIN, STAR, STEPS, bush, chain, name_of, star
from stepposts.course import Course
from stepposts.errors import NoFolk, NoPost, NoYear
from stepposts.tree import Tree
from walked import large_walked, walked_long

FAR_YEARS = [5000, 10 ** 9, 10 ** 20 + 7, 10 ** 40 + 123456789, 10 ** 60 - 1, 10 ** 75]
FOUR = {"a": None, "b": "a", "c": "a", "d": "b"}
BEGINNING = [("w", "a"), ("x", "b"), ("y", "c"), ("z", "d")]


def all_gone(walk):
    """Give the folk of a walk, of whom none stands in its last year."""
    return [folk for folk in walk.folk if folk not in dict(walk.standings[-1])]


def one_by_one(course, folk, years):
    """Give the rows (year, post, who stands right above) of a folk, from what stands in the years."""
    found = []
    for year in years:
        standing = course.on_year(year)
        folk_by = {post: one for one, post in standing}
        post = dict(standing).get(folk)
        if post is not None:
            found.append((year, post, folk_by.get(course.tree_of(year).above(post))))
    return found


class HoldersAndPlaces(unittest.TestCase):
    def test_by_hand(self):
        course = Course(Tree(FOUR), BEGINNING, deeds=[(2, "open", "e", "c")])
        self.assertEqual(course.holder(0, "a"), "w")
        self.assertEqual(course.holder(1, "a"), "x")
        self.assertEqual(course.holder(1, "d"), (1, 0))
        self.assertEqual(course.holder(2, "e"), (2, 1))
        self.assertEqual(course.stands("w", 0), "a")
        self.assertIsNone(course.stands("w", 1))
        self.assertEqual(course.stands("x", 1), "a")
        self.assertIsNone(course.stands((1, 0), 0))
        self.assertEqual(course.stands((1, 0), 1), "d")
        self.assertEqual(course.stands((2, 1), 2), "e")
        self.assertIsNone(course.stands((2, 1), 1))
        self.assertIsNone(course.stands((10 ** 50, 0), 10 ** 50 - 1))
        self.assertIsNone(course.stands((10 ** 50, 0), 10 ** 50 + 5))
        self.assertEqual(course.stands((10 ** 50, 0), 10 ** 50 + 4), "a")

    def assert_places(self, course, walk, years):
        for year in years:
            for post, folk in walk.folk_by(year).items():
                self.assertEqual(course.holder(year, post), folk)
                self.assertEqual(course.stands(folk, year), post)
            there = dict(walk.standings[year])
            for folk in walk.folk[::7]:
                self.assertEqual(course.stands(folk, year), there.get(folk))

    def test_small_trees_against_the_walk(self):
        for above_by, standing in list(all_small())[::5]:
            course, walk = walked_long(above_by, standing, [])
            self.assert_places(course, walk, range(len(walk.trees)))
        for above_by, standing, deeds in [*some_named(), *some_small()]:
            course, walk = walked_long(above_by, standing, deeds)
            self.assert_places(course, walk, range(len(walk.trees)))

    def test_large_trees_against_the_walk(self):
        for course, walk in large_walked():
            self.assert_places(course, walk, [0, 40, walk.orderly_year(), walk.orderly_year() + 60])

    def test_far_years_against_what_stands(self):
        for above_by, standing, deeds in [*some_named(), *some_large()]:
            course = Course(Tree(above_by), standing, deeds=deeds)
            many = len(course.tree_of(10 ** 9).posts())
            for year in FAR_YEARS:
                told = course.on_year(year)
                for folk, post in told[::17]:
                    self.assertEqual(course.holder(year, post), folk)
                    self.assertEqual(course.stands(folk, year), post)
                for folk in [standing[0][0], (year + 1, 0), (year - many, 0), (1, 0), (10 ** 76, 0)]:
                    self.assertIsNone(course.stands(folk, year))

    def test_kinds_of_what_is_told(self):
        course = Course(Tree(FOUR), BEGINNING)
        self.assertIs(type(course.holder(0, "a")), str)
        self.assertIs(type(course.holder(9, "a")), tuple)
        self.assertIs(type(course.stands("w", 0)), str)


class Ways(unittest.TestCase):
    def test_by_hand(self):
        course = Course(Tree(FOUR), BEGINNING)
        self.assertEqual(course.way("w"), [("a", 0, 1)])
        self.assertEqual(course.way("x"), [("b", 0, 1), ("a", 1, 2)])
        self.assertEqual(course.way("z"), [("d", 0, 1), ("b", 1, 3), ("a", 3, 4)])
        self.assertEqual(course.way((1, 0)), [("d", 1, 3), ("b", 3, 4), ("a", 4, 5)])
        far = 3 * 10 ** 40
        self.assertEqual(course.way((far + 1, 0)), [
            ("d", far + 1, far + 3), ("b", far + 3, far + 4), ("a", far + 4, far + 5)])
        self.assertEqual(course.way((far + 2, 0)), [("c", far + 2, far + 5), ("a", far + 5, far + 6)])

    def test_one_post_alone(self):
        course = Course(Tree(ALONE), [("x", "a")])
        self.assertEqual(course.way("x"), [("a", 0, 1)])
        for year in [1, 2, 10 ** 60]:
            self.assertEqual(course.way((year, 0)), [("a", year, year + 1)])
            self.assertEqual(course.over((year, 0)), [])
            self.assertEqual(course.comes_to(year), "a")

    def test_against_the_walk(self):
        cases = [(above_by, standing, []) for above_by, standing in list(all_small())[::3]]
        for above_by, standing, deeds in [*cases, *some_named(), *some_small()]:
            course, walk = walked_long(above_by, standing, deeds)
            rows = walk.place_rows()
            for folk in all_gone(walk):
                self.assertEqual(course.way(folk), way_plain(rows[folk]))

    def test_large_trees_against_the_walk(self):
        for course, walk in large_walked():
            rows = walk.place_rows()
            for folk in all_gone(walk)[::9]:
                self.assertEqual(course.way(folk), way_plain(rows[folk]))

    def test_folk_that_stand_there_in_no_year(self):
        deeds = [(0, "leave", "c"), (3, "open", "e", "a"), (3, "shut", "e"), (5, "leave", "d"), (5, "leave", "d")]
        course = Course(Tree(FOUR), BEGINNING, deeds=[(0, "leave", "c"), *deeds])
        walk = PlainWalk(FOUR, BEGINNING, [(0, "leave", "c"), *deeds], 30)
        never = [folk for folk, rows in walk.place_rows().items() if not rows]
        self.assertIn("y", never)
        self.assertIn((0, 1), never)
        self.assertIn((3, 1), never)
        self.assertIn((5, 1), never)
        for folk in never:
            self.assertEqual(course.way(folk), [])
            self.assertEqual(course.over(folk), [])
            self.assertEqual(course.right_above(folk, "w"), [])
            self.assertEqual(course.right_above("w", folk), [])
            self.assertEqual(course.in_branch(folk, "a"), [])
            for year in [0, 3, 5, 10 ** 40]:
                self.assertIsNone(course.stands(folk, year))

    def test_who_comes_by_the_year_serves_as_many_years_as_there_are_posts(self):
        for above_by, standing, deeds in [*some_named(), *some_small(), *some_large()]:
            course = Course(Tree(above_by), standing, deeds=deeds)
            first = course.orderly_year()
            many = len(course.tree_of(first).posts())
            with_deeds = [deed[0] for deed in deeds]
            for year in [first, first + 1, first + 2, 5000, 10 ** 59]:
                if year > 0 and year not in with_deeds:
                    way = course.way((year, 0))
                    self.assertEqual((way[0][1], way[-1][2]), (year, year + many))

    def test_far_ways_against_what_stands(self):
        for above_by, standing, deeds in [*some_named(), *list(some_small())[::10], *some_large()]:
            course = Course(Tree(above_by), standing, deeds=deeds)
            tree = course.tree_of(10 ** 9)
            many = len(tree.posts())
            for came in [10 ** 9, 10 ** 59 + 3] if many > 20 else FAR_YEARS:
                rows = one_by_one(course, (came, 0), range(came - 2, came + many + 2))
                self.assertEqual(course.way((came, 0)), way_plain(rows))
                self.assertEqual(course.over((came, 0)), over_plain(rows))
                self.assertEqual(rows[0][0], came)
                posts = [post for post, _, _ in course.way((came, 0))]
                # Each next post is the one right above, up to the head.
                self.assertEqual(posts[1:] + [None], [tree.above(post) for post in posts])

    def test_far_ways_go_from_turn_to_turn(self):
        for above_by, standing, deeds in [*some_named(), *some_large()]:
            course = Course(Tree(above_by), standing, deeds=deeds)
            for came in [5000, 10 ** 59]:
                for post, first, behind in course.way((came, 0)):
                    number = course.turns(post, first)
                    self.assertEqual(course.turn_year(post, number), first)
                    self.assertEqual(course.turn_year(post, number + 1), behind)

    def test_kinds_of_what_is_told(self):
        way = Course(Tree(FOUR), BEGINNING).way((7, 0))
        self.assertIs(type(way), list)
        self.assertEqual({tuple(map(type, row)) for row in way}, {(str, int, int)})
        self.assertEqual({type(row) for row in way}, {tuple})


class ComesTo(unittest.TestCase):
    def test_by_hand(self):
        course = Course(Tree(FOUR), BEGINNING, deeds=[(2, "leave", "c"), (3, "open", "e", "d"), (3, "shut", "c")])
        self.assertEqual([course.comes_to(year) for year in [1, 2, 3, 4, 5, 10 ** 50]], ["d", "c", "d", "e", "e", "e"])

    def test_of_the_tree_ahead_of_the_years_deeds(self):
        course = Course(Tree(FOUR), BEGINNING, deeds=[(1, "shut", "d"), (2, "open", "e", "b"), (2, "leave", "b")])
        self.assertEqual(course.comes_to(1), "d")
        self.assertEqual(course.comes_to(2), "c")
        self.assertEqual(course.way((1, 0)), [])

    def test_against_the_walk(self):
        for course, walk in [*(walked_long(*case) for case in [*some_named(), *some_small()]), *large_walked()]:
            for year in range(1, len(walk.trees)):
                self.assertEqual(course.comes_to(year), walk.came_to[year])
        for above_by, standing in list(all_small())[::3]:
            course, walk = walked_long(above_by, standing, [])
            for year in range(1, len(walk.trees)):
                self.assertEqual(course.comes_to(year), walk.came_to[year])

    def test_far_years(self):
        for above_by, standing, deeds in [*some_named(), *some_small(), *some_large()]:
            course = Course(Tree(above_by), standing, deeds=deeds)
            for year in FAR_YEARS:
                self.assertEqual(course.comes_to(year), course.way((year, 0))[0][0])
                self.assertEqual(course.comes_to(year), course.stands((year, 0), year))


class Above(unittest.TestCase):
    def test_by_hand(self):
        course = Course(Tree(FOUR), BEGINNING)
        self.assertEqual(course.over("w"), [])
        self.assertEqual(course.over("x"), [("w", 0, 1)])
        # In the year 1 both x and z move up.
        self.assertEqual(course.over("z"), [("x", 0, 2), ("y", 2, 3)])
        self.assertEqual(course.right_above("x", "z"), [(0, 2)])
        self.assertEqual(course.right_above("z", "x"), [])
        self.assertEqual(course.right_above("w", "x"), [(0, 1)])
        self.assertEqual(course.right_above("w", "z"), [])
        self.assertEqual(course.right_above("x", "x"), [])
        self.assertEqual(course.in_branch("z", "b"), [(0, 3)])
        self.assertEqual(course.in_branch("z", "a"), [(0, 4)])
        self.assertEqual(course.in_branch("z", "d"), [(0, 1)])
        self.assertEqual(course.in_branch("z", "c"), [])

    def test_two_that_meet_again(self):
        # What is opened and shut above and below makes breaks in who stands right above whom.
        found = 0
        chance = random.Random(61)
        for _ in range(150):
            above_by = any_tree(chance, 6)
            standing = any_standing(chance, above_by)
            course, walk = walked_long(above_by, standing, any_deeds(chance, above_by, 9, 6))
            rows = walk.place_rows()
            for other in all_gone(walk):
                over = over_plain(rows[other])
                self.assertEqual(course.over(other), over)
                for folk in sorted({row[0] for row in over}, key=str):
                    years = [row[1:] for row in over if row[0] == folk]
                    self.assertEqual(course.right_above(folk, other), years)
                    found += len(years) > 1
        self.assertGreater(found, 0)

    def assert_above(self, course, walk, folk):
        rows = walk.place_rows()
        first = walk.orderly_year()
        branches = {post: all_below(walk.above_by, post) for post in list(walk.above_by)[:5]}
        for other in folk:
            self.assertEqual(course.over(other), over_plain(rows[other]))
            for one in folk[:6]:
                self.assertEqual(course.right_above(one, other), right_above_plain(rows[other], one))
            for post, branch in branches.items():
                self.assertEqual(course.in_branch(other, post), in_branch_plain(rows[other], branch, first))

    def test_small_trees_against_the_walk(self):
        for above_by, standing in list(all_small())[::7]:
            course, walk = walked_long(above_by, standing, [])
            self.assert_above(course, walk, all_gone(walk))
        for above_by, standing, deeds in [*some_named(), *list(some_small())[::2]]:
            course, walk = walked_long(above_by, standing, deeds)
            self.assert_above(course, walk, all_gone(walk))

    def test_large_trees_against_the_walk(self):
        for course, walk in large_walked():
            gone = all_gone(walk)
            near = [folk for folk in gone if isinstance(folk, tuple) and abs(folk[0] - walk.orderly_year()) < 2]
            self.assert_above(course, walk, [*near, *gone[::90]])

    def test_far_folk_against_what_stands(self):
        chance = random.Random(62)
        for above_by in [CHAIN, STAR, STEPS, bush(15, 2), brush(9), any_tree(chance, 12)]:
            deeds = any_deeds(chance, above_by, 3, 5)
            standing = any_standing(chance, above_by)
            course = Course(Tree(above_by), standing, deeds=deeds)
            tree = course.tree_of(10 ** 9)
            many = len(tree.posts())
            for came in FAR_YEARS:
                rows = one_by_one(course, (came, 0), range(came, came + many))
                for ahead in range(-many - 1, many + 2):
                    one = (came + ahead, 0)
                    self.assertEqual(course.right_above(one, (came, 0)), right_above_plain(rows, one))
                self.assertEqual(course.right_above(standing[0][0], (came, 0)), [])
                for post in tree.posts():
                    self.assertEqual(course.in_branch((came, 0), post), in_branch_plain(rows, tree.branch(post), 0))

    def test_over_and_right_above_agree(self):
        for above_by, standing, deeds in some_large():
            course = Course(Tree(above_by), standing, deeds=deeds)
            for other in [(1, 0), standing[-1][0], (10 ** 59, 0)]:
                told = course.over(other)
                for folk in sorted({row[0] for row in told}, key=str)[:20]:
                    years = [(first, behind) for one, first, behind in told if one == folk]
                    self.assertEqual(course.right_above(folk, other), years)

    def test_years_ahead_of_the_orderly_one_are_in_no_branch(self):
        course = Course(Tree(CHAIN), standing_of("cabd"))
        first = course.orderly_year()
        self.assertEqual(first, 3)
        for folk, _ in course.on_year(0):
            years = [year for row in course.in_branch(folk, "d") for year in range(*row)]
            there = [year for year in range(10) if course.stands(folk, year) is not None]
            self.assertEqual(years, [year for year in there if year >= first])

    def test_stretches_do_not_touch(self):
        for above_by, standing, deeds in [*some_named(), *some_small()]:
            course, walk = walked_long(above_by, standing, deeds)
            for other in all_gone(walk)[::4]:
                told = course.over(other)
                for row, later in zip(told, told[1:]):
                    self.assertLessEqual(row[2], later[1])
                    self.assertFalse(row[0] == later[0] and row[2] == later[1])
                for rows in [course.way(other), told]:
                    self.assertEqual(rows, sorted(rows, key=lambda row: row[1]))
                    self.assertTrue(all(row[1] < row[2] for row in rows))

    def test_kinds_of_what_is_told(self):
        course = Course(Tree(FOUR), BEGINNING)
        for rows, kinds in [
            (course.over("z"), {(str, int, int)}), (course.over((9, 0)), {(tuple, int, int)}),
            (course.right_above("x", "z"), {(int, int)}), (course.in_branch("z", "b"), {(int, int)}),
        ]:
            self.assertIs(type(rows), list)
            self.assertEqual({tuple(map(type, row)) for row in rows}, kinds)
            self.assertEqual({type(row) for row in rows}, {tuple})


class ToldLists(unittest.TestCase):
    def test_told_lists_are_the_askers_own_also_the_hundredth_time(self):
        course = Course(Tree(STEPS), standing_of(sorted(STEPS)), deeds=[(2, "leave", "c"), (4, "open", "e", "g")])
        first = course.orderly_year()
        folk = course.on_year(0)[3][0]
        asks = [
            lambda: course.on_year(0), lambda: course.on_year(2), lambda: course.on_year(first),
            lambda: course.on_year(first + 1), lambda: course.on_year(10 ** 50), lambda: course.way(folk),
            lambda: course.way((3, 0)), lambda: course.way((10 ** 50, 0)), lambda: course.over(folk),
            lambda: course.over((10 ** 50, 0)), lambda: course.right_above((10 ** 50, 0), (10 ** 50 + 1, 0)),
            lambda: course.in_branch((10 ** 50, 0), "root"), lambda: course.in_branch(folk, "root"),
            lambda: course.tree_of(4).posts(), lambda: course.word("c", first),
        ]
        kept = [ask() for ask in asks]
        copies = [list(rows) for rows in kept]
        for rows in kept:
            rows.append("more")
            rows.reverse()
        for _ in range(100):
            for ask, copied in zip(asks, copies):
                told = ask()
                self.assertEqual(told, copied)
                self.assertIsNot(told, ask())
                told.clear()


class Refusals(RefusalCase):
    def setUp(self):
        deeds = [(3, "open", "e", "c"), (3, "leave", "a"), (5, "shut", "e"), (0, "leave", "d"), (6, "leave", "d")]
        self.course = Course(Tree(FOUR), BEGINNING, deeds=deeds)
        self.folk = ["w", "x", "y", "z", (0, 1), (1, 0), (3, 0), (3, 1), (3, 2), (5, 0), (6, 1), (10 ** 60, 0)]
        self.none = [
            *NO_NAMES, "a", "b", "v", "ww", "none", (0, 0), (0, 2), (1, 1), (2, 1), (3, 3), (5, 1), (6, 2), (7, 1),
            (10 ** 59, 1), (10 ** 59, 2), (-1, 0), (-1, 1), (3, -1), (1, -1), (10 ** 59, -1), (-10 ** 59, 0),
            (True, 0), (False, 1), (1, False), (3, True), (True, False), (3.0, 0), (3, 0.0), (3, 1.0), ("3", 0),
            (3, "0"), (3, None), (None, 0), (None, None), (3,), (3, 0, 0), (3, 1, 0), ((3, 0),), ((3, 0), 0), (3, (0,)),
            ([3], 0), (3, [0]), ([], []), ({}, 0), ("w",), ("w", 0), ("w", "a"), [3, 0], [3, 1], ["w"], {3: 0}, {3, 0},
            (Sly(), 0), (3, Sly()), (Sly(), Sly()), b"w", 3, range(3), slice(3, 0), "(3, 0)", "3",
            UnderTuple((3, 0)), UnderTuple((3, 1)), UnderList([3, 0]),
        ]

    def test_all_folk_of_the_course(self):
        for folk in self.folk:
            self.assertIs(type(self.course.way(folk=folk)), list)
            self.assertIs(type(self.course.over(folk=folk)), list)
            self.course.stands(folk=folk, year=4)
            self.course.in_branch(folk=folk, post="a")
            self.course.right_above(folk=folk, other=folk)

    def test_what_is_none_of_the_folk(self):
        for thing in self.none:
            with self.subTest(thing=repr(thing)):
                self.assert_refused(NoFolk, self.course.way, thing)
                self.assert_refused(NoFolk, self.course.over, thing)
                self.assert_refused(NoFolk, self.course.stands, thing, 3)
                self.assert_refused(NoFolk, self.course.in_branch, thing, "a")
                self.assert_refused(NoFolk, self.course.right_above, thing, "w")
                self.assert_refused(NoFolk, self.course.right_above, "w", thing)
                self.assert_refused(NoFolk, self.course.right_above, thing, thing)

    def test_what_is_no_folk_goes_ahead_of_years_and_posts(self):
        for thing in self.none[::3]:
            for bad in [-1, None, True, "a1", [], {}]:
                self.assert_refused(NoFolk, self.course.stands, thing, bad)
                self.assert_refused(NoFolk, self.course.stands, year=bad, folk=thing)
                self.assert_refused(NoFolk, self.course.in_branch, thing, bad)
                self.assert_refused(NoFolk, self.course.in_branch, post=bad, folk=thing)

    def test_years_that_are_none(self):
        for folk in self.folk:
            self.assert_all_refused(
                NoYear, lambda year: self.course.stands(folk, year), NO_WHOLES[::5] + BELOW_NONE)
        self.assert_all_refused(NoYear, lambda year: self.course.stands("w", year), NO_WHOLES + NAMES)
        self.assert_all_refused(NoYear, lambda year: self.course.comes_to(year), [0, *NO_WHOLES, *BELOW_NONE, *NAMES])
        self.assert_refused(NoYear, self.course.comes_to, year=0)
        self.assert_refused(NoYear, self.course.comes_to, year=True)

    def test_a_holders_year_goes_ahead_of_its_post(self):
        for year in [*NO_WHOLES, *BELOW_NONE, *NAMES]:
            with self.subTest(year=repr(year)):
                for post in ["a", "zz", "", None, [], Sly()]:
                    self.assert_refused(NoYear, self.course.holder, year, post)
                    self.assert_refused(NoYear, self.course.holder, post=post, year=year)

    def test_holders_of_what_is_no_post_of_the_years_tree(self):
        for post in [*NO_NAMES, "zz", "w", "none"]:
            with self.subTest(post=repr(post)):
                for year in [0, 3, 8, 10 ** 60]:
                    self.assert_refused(NoPost, self.course.holder, year, post)
        for year in [0, 1, 2, 5, 6, 100, 10 ** 60]:
            self.assert_refused(NoPost, self.course.holder, year, "e")
        self.assertEqual(self.course.holder(3, "e"), (3, 1))
        self.assertEqual(self.course.holder(post="e", year=4), (4, 0))

    def test_branches_of_what_is_no_post_of_the_orderly_years_tree(self):
        for post in [*NO_NAMES, "e", "zz", "w", "none"]:
            with self.subTest(post=repr(post)):
                for folk in self.folk:
                    self.assert_refused(NoPost, self.course.in_branch, folk, post)


class Sizes(unittest.TestCase):
    def test_chains_and_stars(self):
        posts = [name_of(at) for at in range(100)]
        course = Course(Tree(chain(100)), standing_of(posts))
        far = 10 ** 59
        way = course.way((far, 0))
        self.assertEqual(way, [(post, far + at, far + at + 1) for at, post in enumerate(reversed(posts))])
        self.assertEqual(course.over((far, 0)), [((far - 1, 0), far, far + 99)])
        self.assertEqual(course.right_above((far - 1, 0), (far, 0)), [(far, far + 99)])
        self.assertEqual(course.in_branch((far, 0), posts[40]), [(far, far + 60)])
        course = Course(Tree(star(100)), standing_of(posts))
        self.assertEqual(len(course.way((far, 0))), 2)
        self.assertEqual(course.over((far, 0)), [((far - 99 + at, 0), far + at, far + at + 1) for at in range(99)])

    def test_calls_go_no_deeper_with_a_longer_chain(self):
        course = Course(Tree(chain(1100)), standing_of([name_of(at) for at in range(1100)]))
        self.assertEqual(course.comes_to(10 ** 59), name_of(1099))
        self.assertEqual(course.stands((10 ** 59, 0), 10 ** 59 + 1099), name_of(0))
        self.assertEqual(course.holder(10 ** 59, name_of(500)), (10 ** 59 - 599, 0))


if __name__ == "__main__":
    unittest.main()
