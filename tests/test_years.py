"""Points 6 and 7: what stands in any year, its tree, and the orderly year."""

import random
import unittest

from cases import all_small, any_standing, any_tree, brush, folk_names, orderly_standing, some_large, some_named
from cases import some_small, standing_of
from odd_things import BELOW_NONE, NAMES, NO_WHOLES, OTHER_KINDS, OTHER_TEXTS, RefusalCase
from plain_walk import PlainWalk, is_orderly_plain
from shapes import ALONE, CHAIN, STAR, STEPS, bush, chain, name_of, star
from stepposts.course import Course
from stepposts.errors import NoDeeds, NoStanding, NoTree, NoYear
from stepposts.standing import is_orderly
from stepposts.tree import Tree
from walked import large_walked, walked

FAR_YEARS = [5000, 10 ** 9, 10 ** 20 + 7, 10 ** 40 + 123456789, 10 ** 60 - 2, 10 ** 60 - 1, 10 ** 75]


def behind(above_by, standing, year):
    """Give what stands in the year behind the one in which this stands."""
    walk = PlainWalk(above_by, standing, [], 0)
    walk.one_year(year + 1)
    return walk.standings[-1]


def all_deeds(above_by, year):
    """Give all deeds of a year that can be done in the tree of that year."""
    ends = [post for post in above_by if post not in above_by.values() and above_by[post] is not None]
    shut = [(year, "shut", post) for post in ends]
    return shut + [deed for post in above_by for deed in [(year, "leave", post), (year, "open", "zz", post)]]


class YearsCase(RefusalCase):
    def assert_years(self, above_by, standing, deeds, more):
        """Assert all years up to some more behind the last deed than there are ever posts."""
        course, walk = walked(above_by, standing, deeds, more)
        self.assert_same(course, walk)
        return course

    def assert_same(self, course, walk):
        self.assertEqual(course.orderly_year(), walk.orderly_year())
        for year in range(len(walk.trees)):
            self.assertEqual(course.on_year(year), walk.standings[year])
            self.assertEqual(course.tree_of(year), Tree(walk.trees[year]))


class OnYear(YearsCase):
    def test_by_hand(self):
        course = Course(Tree({"a": None, "b": "a", "c": "a"}), [("x", "c"), ("y", "a"), ("z", "b")])
        self.assertEqual(course.on_year(0), [("x", "c"), ("y", "a"), ("z", "b")])
        self.assertEqual(course.on_year(1), [("x", "a"), ("z", "b"), ((1, 0), "c")])
        self.assertEqual(course.on_year(2), [("z", "a"), ((1, 0), "c"), ((2, 0), "b")])
        self.assertEqual(course.on_year(3), [((1, 0), "a"), ((2, 0), "b"), ((3, 0), "c")])
        self.assertEqual(course.on_year(4), [((2, 0), "a"), ((3, 0), "c"), ((4, 0), "b")])
        self.assertEqual(course.orderly_year(), 1)
        far = 10 ** 59
        self.assertEqual(course.on_year(far), [((far - 2, 0), "a"), ((far - 1, 0), "c"), ((far, 0), "b")])
        self.assertEqual(course.tree_of(far), Tree({"a": None, "b": "a", "c": "a"}))

    def test_one_post_alone(self):
        course = Course(Tree(ALONE), [("x", "a")])
        self.assertEqual(course.on_year(0), [("x", "a")])
        self.assertEqual(course.orderly_year(), 0)
        for year in [1, 2, 3, 100, *FAR_YEARS]:
            self.assertEqual(course.on_year(year), [((year, 0), "a")])

    def test_all_standings_of_small_trees(self):
        for above_by, standing in all_small():
            self.assert_years(above_by, standing, [], 4)

    def test_named_small_and_large_trees_with_deeds_and_without(self):
        for above_by, standing, deeds in [*some_named(), *some_small()]:
            self.assert_years(above_by, standing, deeds, 30)
        for course, walk in large_walked():
            self.assert_same(course, walk)
        self.assert_years(*list(some_large())[-1], 10)

    def test_far_years_agree_with_a_long_walk(self):
        chance = random.Random(31)
        for above_by in [ALONE, CHAIN, STAR, STEPS, bush(13, 2), brush(8)]:
            self.assert_years(above_by, any_standing(chance, above_by), [], 1500)
            self.assert_years(above_by, any_standing(chance, above_by), [(3, "leave", max(above_by))], 1500)

    def test_a_far_year_is_behind_the_one_ahead_of_it(self):
        for above_by, standing, deeds in [*some_named(), *some_small(), *some_large()]:
            course = Course(Tree(above_by), standing, deeds=deeds)
            first = course.orderly_year()
            for far in [first, first + 1, first + len(above_by), *FAR_YEARS]:
                told = course.on_year(far)
                tree = course.tree_of(far)
                self.assertEqual(course.on_year(far + 1), behind(
                    {post: tree.above(post) for post in tree.posts()}, told, far))
                if far > first:
                    self.assertEqual(told[-1][0], (far, 0))

    def test_far_years_go_on_as_a_course_begun_there(self):
        for above_by, standing, deeds in [*some_named(), *some_small(), *some_large()]:
            course = Course(Tree(above_by), standing, deeds=deeds)
            for far in FAR_YEARS[:4]:
                posts = [post for _, post in course.on_year(far)]
                other = Course(course.tree_of(far), standing_of(posts))
                self.assertEqual(other.orderly_year(), 0)
                for years in [1, len(posts), 999, 10 ** 30]:
                    self.assertEqual(
                        [post for _, post in other.on_year(years)], [post for _, post in course.on_year(far + years)])

    def test_far_years_folk_are_the_last_ones_that_came(self):
        for above_by, standing, deeds in some_large():
            course = Course(Tree(above_by), standing, deeds=deeds)
            many = len(course.tree_of(2000).posts())
            for far in FAR_YEARS:
                self.assertEqual(
                    [folk for folk, _ in course.on_year(far)], [(far - many + 1 + at, 0) for at in range(many)])

    def test_the_tree_stays_where_there_are_no_deeds(self):
        for above_by in [ALONE, CHAIN, STAR, STEPS, chain(100), bush(100, 3)]:
            course = Course(Tree(above_by), standing_of(sorted(above_by)))
            for year in [0, 1, 2, 50, 99, 100, 101, 1000, *FAR_YEARS]:
                self.assertEqual(course.tree_of(year), Tree(above_by))

    def test_kinds_of_what_is_told(self):
        course = Course(Tree(STEPS), standing_of(sorted(STEPS)), deeds=[(2, "leave", "c")])
        for year in [0, 1, 2, 3, 10, 10 ** 50]:
            told = course.on_year(year)
            self.assertIs(type(told), list)
            self.assertEqual({(type(row), len(row), type(row[1])) for row in told}, {(tuple, 2, str)})
            for folk, _ in told:
                self.assertIn(type(folk), [str, tuple])
            self.assertIs(type(course.tree_of(year)), Tree)
        self.assertIs(type(course.orderly_year()), int)

    def test_more_than_sixty_figures_and_a_hundred_posts_are_no_fault(self):
        for above_by in [chain(1200), star(1200)]:
            course = Course(Tree(above_by), list(zip(folk_names(1200), [name_of(at) for at in range(1200)])))
            self.assertEqual(course.orderly_year(), 0)
            self.assertEqual(course.on_year(10 ** 90)[-1][0], (10 ** 90, 0))
            self.assertEqual(course.on_year(10 ** 90)[0], ((10 ** 90 - 1199, 0), name_of(0)))


class OrderlyYear(YearsCase):
    def test_orderly_at_once(self):
        chance = random.Random(32)
        for above_by in [ALONE, CHAIN, STAR, STEPS, chain(100), star(100), any_tree(chance, 100)]:
            for deeds in [None, []]:
                course = Course(Tree(above_by), orderly_standing(chance, above_by), deeds=deeds)
                self.assertEqual(course.orderly_year(), 0)
                self.assertIs(type(course.orderly_year()), int)

    def test_later(self):
        self.assertEqual(Course(Tree(CHAIN), standing_of("cabd")).orderly_year(), 3)
        self.assertEqual(Course(Tree(STAR), standing_of("aeqzm")).orderly_year(), 1)
        above_by = chain(100)
        backwards = standing_of([name_of(at) for at in range(99, -1, -1)])
        self.assertEqual(Course(Tree(above_by), backwards).orderly_year(), 99)

    def test_at_the_latest_as_many_years_as_there_are_posts(self):
        for above_by, standing in all_small():
            self.assertLessEqual(Course(Tree(above_by), standing).orderly_year(), len(above_by))
        for above_by, standing, deeds in [*some_small(), *some_large()]:
            course = Course(Tree(above_by), standing, deeds=deeds)
            last = max([deed[0] for deed in deeds], default=0)
            self.assertLessEqual(course.orderly_year(), last + len(course.tree_of(10 ** 9).posts()))
            self.assertGreaterEqual(course.orderly_year(), last)

    def test_orderly_ahead_of_a_deed_is_orderly_behind_it(self):
        # So the orderly year of such a course is the last deed's one, and no other one ahead or behind.
        for above_by, standing in all_small():
            if is_orderly_plain(above_by, standing):
                for year in [0, 2]:
                    for deed in all_deeds(above_by, year):
                        course = Course(Tree(above_by), standing, deeds=[deed])
                        self.assertEqual(course.orderly_year(), year)

    def test_not_orderly_behind_the_last_deed(self):
        above_by = {"a": None, "b": "a", "c": "b"}
        # In the year 1 the one who has served longest holds b, and the next one a.
        for deed in [(1, "open", "d", "a"), (1, "open", "d", "c")]:
            course = self.assert_years(above_by, standing_of("cba"), [deed], 5)
            self.assertEqual(course.orderly_year(), 2)

    def test_orderly_behind_the_last_deed_at_once(self):
        above_by = {"a": None, "b": "a", "c": "b"}
        for year in [0, 1, 2, 7, 999, 1000]:
            course = self.assert_years(above_by, standing_of("abc"), [(year, "open", "d", "c")], 3)
            self.assertEqual(course.orderly_year(), year)
        # In the year 0 the standing is not orderly, but for the deed in that year.
        course = self.assert_years(above_by, standing_of("cab"), [(0, "leave", "a"), (0, "leave", "a")], 3)
        self.assertEqual(course.orderly_year(), 0)

    def test_a_deed_late_keeps_the_orderly_year_from_being_earlier(self):
        chance = random.Random(33)
        for above_by in [CHAIN, STAR, STEPS, bush(100, 2)]:
            standing = orderly_standing(chance, above_by)
            for year in [0, 1, 13, 1000]:
                deeds = [(year, "leave", min(above_by))]
                self.assertGreaterEqual(Course(Tree(above_by), standing, deeds=deeds).orderly_year(), year)

    def test_an_orderly_year_is_the_first_one(self):
        for above_by, standing, deeds in some_small():
            course = Course(Tree(above_by), standing, deeds=deeds)
            last = max([deed[0] for deed in deeds], default=0)
            for year in range(last, course.orderly_year() + 5):
                posts = [post for _, post in course.on_year(year)]
                self.assertIs(is_orderly(course.tree_of(year), standing_of(posts)), year >= course.orderly_year())


class Refusals(RefusalCase):
    def test_what_is_no_year(self):
        for deeds in [None, [(4, "open", "zz", "root")]]:
            course = Course(Tree(STEPS), standing_of(sorted(STEPS)), deeds=deeds)
            for ask in [course.on_year, course.tree_of]:
                self.assert_all_refused(NoYear, ask, NO_WHOLES + BELOW_NONE + NAMES)
            self.assert_refused(NoYear, course.on_year, year=-1)
            self.assert_refused(NoYear, course.tree_of, year=True)

    def test_what_is_no_tree_goes_ahead_of_all_else(self):
        for thing in OTHER_KINDS + OTHER_TEXTS + NAMES + [{}, STEPS, Tree, [Tree(STEPS)]]:
            with self.subTest(thing=repr(thing)):
                for standing in [standing_of(sorted(STEPS)), [], None]:
                    for deeds in [None, [], [(-1, "leave", "root")], "no"]:
                        self.assert_refused(NoTree, Course, thing, standing, deeds=deeds)
                        self.assert_refused(NoTree, Course, deeds=deeds, standing=standing, tree=thing)

    def test_what_is_no_standing_goes_ahead_of_deeds(self):
        for standing in [[], None, standing_of(sorted(CHAIN)), [((1, 0), "a")]]:
            for deeds in [None, [], [(-1, "leave", "root")], "no", ()]:
                self.assert_refused(NoStanding, Course, Tree(STEPS), standing, deeds=deeds)
        self.assert_refused(NoDeeds, Course, Tree(STEPS), standing_of(sorted(STEPS)), deeds="no")

    def test_deeds_are_handed_in_by_their_name_alone(self):
        with self.assertRaises(TypeError):
            Course(Tree(ALONE), [("x", "a")], [])
        with self.assertRaises(TypeError):
            Course(Tree(ALONE), [("x", "a")], None)


if __name__ == "__main__":
    unittest.main()
