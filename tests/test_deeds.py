"""Point 8: deeds, and what is refused where they should be."""

import copy
import random
import unittest

from cases import any_deed, any_standing, any_tree, brush, some_large, some_named, some_small, standing_of
from odd_things import BELOW_NONE, NAMES, NO_NAMES, NO_WHOLES, OTHER_KINDS, OTHER_TEXTS, RefusalCase, Sly
from odd_things import UnderList, UnderTuple
from plain_walk import PlainWalk
from shapes import ALONE, STEPS, chain, name_of, star
from stepposts.course import Course
from stepposts.errors import NoDeeds, NoFolk, NoPost
from stepposts.tree import Tree

FOUR = {"a": None, "b": "a", "c": "a", "d": "b"}
BEGINNING = [("w", "a"), ("x", "b"), ("y", "c"), ("z", "d")]


def course_of(deeds):
    return Course(Tree(FOUR), BEGINNING, deeds=deeds)


def told(course):
    """Give all that a course tells of its years up to the orderly one, and some behind it."""
    years = [*range(course.orderly_year() + 12), 10 ** 59]
    return course.orderly_year(), [(course.on_year(year), course.tree_of(year).posts()) for year in years]


class Leave(unittest.TestCase):
    def test_the_vacancy_is_filled_from_below(self):
        course = course_of([(0, "leave", "a")])
        self.assertEqual(course.on_year(0), [("x", "a"), ("y", "c"), ("z", "b"), ((0, 1), "d")])
        self.assertEqual(course.tree_of(0), Tree(FOUR))
        course = course_of([(0, "leave", "b")])
        self.assertEqual(course.on_year(0), [("w", "a"), ("y", "c"), ("z", "b"), ((0, 1), "d")])
        course = course_of([(0, "leave", "c")])
        self.assertEqual(course.on_year(0), [("w", "a"), ("x", "b"), ("z", "d"), ((0, 1), "c")])

    def test_behind_what_the_year_brings(self):
        course = course_of([(1, "leave", "a")])
        self.assertEqual(course.on_year(0), BEGINNING)
        # First x moves to a, z to b, and (1, 0) comes to d; then y moves to a.
        self.assertEqual(course.on_year(1), [("y", "a"), ("z", "b"), ((1, 0), "d"), ((1, 1), "c")])

    def test_the_same_post_several_times_in_a_year(self):
        course = course_of([(1, "leave", "c"), (1, "leave", "c"), (1, "leave", "c")])
        self.assertEqual(course.on_year(1), [("x", "a"), ("z", "b"), ((1, 0), "d"), ((1, 3), "c")])
        self.assertEqual(course.way((1, 1)), [])
        self.assertEqual(course.way((1, 2)), [])

    def test_the_years_newcomer_goes(self):
        course = course_of([(1, "leave", "d")])
        self.assertEqual(course.on_year(1), [("x", "a"), ("y", "c"), ("z", "b"), ((1, 1), "d")])
        self.assertEqual(course.way((1, 0)), [])


class Open(unittest.TestCase):
    def test_a_new_post_with_a_newcomer(self):
        course = course_of([(0, "open", "e", "c")])
        self.assertEqual(course.on_year(0), [*BEGINNING, ((0, 1), "e")])
        self.assertEqual(course.tree_of(0), Tree({**FOUR, "e": "c"}))
        self.assertEqual(course.tree_of(10 ** 59), Tree({**FOUR, "e": "c"}))

    def test_of_the_year_alone_and_later(self):
        course = course_of([(2, "open", "e", "a")])
        self.assertEqual(course.tree_of(1), Tree(FOUR))
        self.assertEqual(course.tree_of(2), Tree({**FOUR, "e": "a"}))
        self.assertEqual(course.on_year(2)[-2:], [((2, 0), "c"), ((2, 1), "e")])

    def test_below_one_that_was_opened_in_the_same_year(self):
        course = course_of([(3, "open", "e", "d"), (3, "open", "f", "e"), (3, "open", "g", "f")])
        self.assertEqual(course.tree_of(3), Tree({**FOUR, "e": "d", "f": "e", "g": "f"}))
        self.assertEqual(course.on_year(3)[-3:], [((3, 1), "e"), ((3, 2), "f"), ((3, 3), "g")])

    def test_below_a_post_that_had_none_below(self):
        course = course_of([(0, "open", "e", "c"), (0, "leave", "c")])
        self.assertEqual(course.on_year(0), [("w", "a"), ("x", "b"), ("z", "d"), ((0, 1), "c"), ((0, 2), "e")])


class Shut(unittest.TestCase):
    def test_a_post_is_no_more_and_its_holder_goes(self):
        course = course_of([(0, "shut", "d")])
        self.assertEqual(course.on_year(0), BEGINNING[:3])
        self.assertEqual(course.tree_of(0), Tree({"a": None, "b": "a", "c": "a"}))
        self.assertEqual(course.way("z"), [])

    def test_none_comes(self):
        course = course_of([(1, "shut", "c"), (1, "leave", "b"), (1, "shut", "d"), (1, "open", "e", "a")])
        self.assertEqual(course.on_year(1), [("x", "a"), ((1, 0), "b"), ((1, 2), "e")])
        for folk in [(1, 3), (1, 4), (0, 1)]:
            with self.assertRaises(NoFolk):
                course.way(folk)

    def test_down_to_the_head_alone(self):
        course = course_of([(4, "shut", "d"), (4, "shut", "b"), (4, "shut", "c")])
        self.assertEqual(course.tree_of(4), Tree({"a": None}))
        self.assertEqual(course.on_year(5), [((5, 0), "a")])

    def test_opened_again_elsewhere(self):
        course = course_of([(1, "shut", "d"), (1, "open", "d", "c"), (6, "shut", "d"), (8, "open", "d", "a")])
        self.assertEqual(course.tree_of(0).above("d"), "b")
        self.assertEqual(course.tree_of(1).above("d"), "c")
        self.assertEqual(course.tree_of(5).above("d"), "c")
        self.assertEqual(course.tree_of(6).posts(), ["a", "b", "c"])
        self.assertEqual(course.tree_of(7).posts(), ["a", "b", "c"])
        self.assertEqual(course.tree_of(8).above("d"), "a")
        self.assertEqual(course.on_year(1)[-1], ((1, 1), "d"))
        self.assertEqual(course.on_year(8)[-1], ((8, 1), "d"))

    def test_opened_and_shut_in_one_year(self):
        course = course_of([(2, "open", "e", "a"), (2, "shut", "e"), (2, "open", "e", "c")])
        self.assertEqual(course.tree_of(2), Tree({**FOUR, "e": "c"}))
        self.assertEqual(course.on_year(2)[-1], ((2, 2), "e"))
        self.assertEqual(course.way((2, 1)), [])


class Order(unittest.TestCase):
    def test_years_in_any_order_but_each_year_in_its_own(self):
        deeds = [(5, "open", "e", "a"), (5, "open", "f", "e"), (2, "leave", "b"), (2, "shut", "d"), (9, "shut", "f")]
        kept = told(course_of(deeds))
        for order in [[2, 3, 0, 1, 4], [4, 0, 1, 2, 3], [0, 2, 1, 3, 4], [4, 2, 0, 3, 1], [2, 0, 4, 1, 3]]:
            self.assertEqual(told(course_of([deeds[at] for at in order])), kept)
        with self.assertRaises(NoDeeds):
            course_of([deeds[at] for at in [1, 0, 2, 3, 4]])
        other = told(course_of([deeds[at] for at in [0, 1, 3, 2, 4]]))
        self.assertNotEqual(other, kept)

    def test_the_order_within_a_year(self):
        one = course_of([(1, "leave", "a"), (1, "leave", "c")])
        other = course_of([(1, "leave", "c"), (1, "leave", "a")])
        # First y moves up to a, or, the other way about, went ahead of that.
        self.assertEqual(one.on_year(1), [("y", "a"), ("z", "b"), ((1, 0), "d"), ((1, 2), "c")])
        self.assertEqual(other.on_year(1), [("z", "a"), ((1, 0), "b"), ((1, 1), "c"), ((1, 2), "d")])

    def test_the_years_0_and_1000(self):
        course = course_of([(1000, "leave", "c"), (0, "leave", "a")])
        self.assertEqual(course.on_year(0)[-1], ((0, 1), "d"))
        self.assertEqual(course.on_year(1000)[-1][0], (1000, 1))
        self.assertEqual(course.on_year(1000)[-1][1], "c")
        self.assertEqual(course.orderly_year(), 1000)

    def test_sixty_deeds_in_one_year_and_more_are_no_fault(self):
        for many in [60, 100]:
            for year in [0, 1, 1000]:
                course = course_of([(year, "open", name_of(at), "c") for at in range(many)])
                self.assertEqual(course.on_year(year)[-many:], [((year, at + 1), name_of(at)) for at in range(many)])
                course = course_of([(year, "leave", "b")] * many)
                self.assertEqual([folk for folk, _ in course.on_year(year)][-1], (year, many))

    def test_none_and_no_deeds(self):
        for above_by, standing, _ in [*some_named(), *some_small()]:
            kept = told(Course(Tree(above_by), standing))
            self.assertEqual(told(Course(Tree(above_by), standing, deeds=None)), kept)
            self.assertEqual(told(Course(Tree(above_by), standing, deeds=[])), kept)

    def test_newcomers_by_deeds_are_numbered_as_they_come(self):
        for above_by, standing, deeds in [*some_named(), *some_small(), *some_large()]:
            course = Course(Tree(above_by), standing, deeds=deeds)
            for year in sorted({deed[0] for deed in deeds}):
                came = len([deed for deed in deeds if deed[0] == year and deed[1] != "shut"])
                for number in range(1, came + 1):
                    course.way((year, number))
                for number in [came + 1, came + 2, 100]:
                    with self.assertRaises(NoFolk):
                        course.way((year, number))


class NothingChanges(unittest.TestCase):
    def test_deeds_stay_as_they_were(self):
        for above_by, standing, deeds in some_small():
            given = copy.deepcopy(deeds)
            told(Course(Tree(above_by), standing, deeds=deeds))
            self.assertEqual(deeds, given)

    def test_deeds_changed_behind_change_nothing(self):
        deeds = [(5, "open", "e", "a"), (2, "leave", "b")]
        standing = list(BEGINNING)
        above_by = dict(FOUR)
        course = Course(Tree(above_by), standing, deeds=deeds)
        kept = told(course_of([(5, "open", "e", "a"), (2, "leave", "b")]))
        deeds.append((7, "leave", "b"))
        deeds[0] = (1, "leave", "a")
        standing[0] = ("v", "b")
        above_by["c"] = "b"
        self.assertEqual(told(course), kept)
        deeds.clear()
        standing.clear()
        above_by.clear()
        self.assertEqual(told(course), kept)

    def test_courses_of_one_tree_and_one_list_do_not_meddle(self):
        tree = Tree(FOUR)
        deeds = [(2, "leave", "b"), (5, "open", "e", "a")]
        one = Course(tree, BEGINNING, deeds=deeds)
        other = Course(tree, BEGINNING)
        third = Course(one.tree_of(9), standing_of(["a", "b", "c", "d", "e"]), deeds=[(0, "shut", "e")])
        kept = [told(course) for course in [one, other, third]]
        self.assertEqual(tree, Tree(FOUR))
        for course in [third, one, other]:
            told(course)
            course.way((3, 0))
        self.assertEqual([told(course) for course in [one, other, third]], kept)
        self.assertEqual(one.tree_of(9), Tree({**FOUR, "e": "a"}))


class Refusals(RefusalCase):
    def assert_no_deeds(self, deeds):
        self.assert_refused(NoDeeds, course_of, deeds)

    def assert_none_of_them(self, deed):
        """Assert that a deed is refused alone, ahead of others and behind them."""
        self.assert_no_deeds([deed])
        self.assert_no_deeds([deed, (0, "leave", "a"), (900, "leave", "a")])
        self.assert_no_deeds([(0, "leave", "a"), (900, "leave", "a"), deed])

    def test_what_is_no_list(self):
        for thing in OTHER_KINDS + OTHER_TEXTS + NAMES + [{}, {"a": 1}, ((0, "leave", "a"),)]:
            if thing is not None and thing != []:
                with self.subTest(thing=repr(thing)):
                    self.assert_no_deeds(thing)
        self.assert_no_deeds(())
        self.assert_no_deeds(UnderList([(0, "leave", "a")]))
        self.assert_no_deeds({(0, "leave", "a")})
        self.assert_no_deeds({(0, "leave", "a"): 1})
        self.assert_no_deeds(iter([(0, "leave", "a")]))

    def test_a_deed_that_is_no_tuple(self):
        rows = [[0, "leave", "a"], UnderTuple((0, "leave", "a")), {0: "leave"}]
        for thing in OTHER_KINDS + OTHER_TEXTS + NAMES + [{}, *rows]:
            with self.subTest(thing=repr(thing)):
                self.assert_none_of_them(thing)

    def test_too_short_and_too_long(self):
        for deed in [
            (), (0,), (0, "leave"), (0, "open"), (0, "shut"), (0, "open", "e"), (0, "leave", "a", "b"),
            (0, "leave", "b", "a"), (0, "shut", "d", "b"), (0, "open", "e", "a", "a"), (0, "leave", "a", None),
            (0, "shut", "d", None), (0, "open", "e", "a", None),
        ]:
            with self.subTest(deed=deed):
                self.assert_none_of_them(deed)

    def test_another_word(self):
        for word in ["", "Leave", "leaves", "OPEN", "opens", "shu", "close", "go", "leave ", " open", *NO_NAMES]:
            with self.subTest(word=repr(word)):
                for rest in [("a",), ("d",), ("e", "a"), ()]:
                    self.assert_none_of_them((0, word, *rest))

    def test_a_year_that_is_none(self):
        for year in [*NO_WHOLES, *BELOW_NONE, 1001, 1002, 10 ** 20]:
            with self.subTest(year=repr(year)):
                for rest in [("leave", "a"), ("open", "e", "a"), ("shut", "d")]:
                    self.assert_none_of_them((year, *rest))

    def test_a_post_that_is_none(self):
        for post in [*NO_NAMES, "e", "aa", "none", "leave"]:
            with self.subTest(post=repr(post)):
                for year in [0, 3]:
                    self.assert_none_of_them((year, "leave", post))
                    self.assert_none_of_them((year, "shut", post))
                    self.assert_none_of_them((year, "open", "f", post))

    def test_a_new_post_that_is_no_name(self):
        for post in NO_NAMES:
            with self.subTest(post=repr(post)):
                self.assert_none_of_them((0, "open", post, "a"))
                self.assert_none_of_them((9, "open", post, post))

    def test_the_head_is_shut(self):
        self.assert_none_of_them((0, "shut", "a"))
        for year in [0, 1, 1000]:
            self.assert_refused(NoDeeds, Course, Tree(ALONE), [("x", "a")], deeds=[(year, "shut", "a")])
        self.assert_no_deeds([(0, "shut", "d"), (0, "shut", "b"), (0, "shut", "c"), (0, "shut", "a")])

    def test_a_post_with_others_below_it_is_shut(self):
        self.assert_none_of_them((0, "shut", "b"))
        self.assert_none_of_them((5, "shut", "b"))
        self.assert_no_deeds([(0, "open", "e", "c"), (0, "shut", "c")])
        self.assert_no_deeds([(5, "shut", "c"), (3, "open", "e", "c")])
        self.assert_no_deeds([(5, "shut", "b"), (5, "shut", "d")])
        course_of([(5, "shut", "d"), (5, "shut", "b")])

    def test_a_post_is_opened_that_stands_there(self):
        for post in "abcd":
            self.assert_none_of_them((0, "open", post, "a"))
            self.assert_none_of_them((0, "open", post, post))
        self.assert_no_deeds([(0, "open", "e", "a"), (0, "open", "e", "a")])
        self.assert_no_deeds([(0, "open", "e", "a"), (1, "open", "e", "b")])
        self.assert_no_deeds([(4, "open", "d", "a"), (5, "shut", "d")])

    def test_a_post_is_opened_below_one_that_does_not(self):
        self.assert_none_of_them((0, "open", "e", "e"))
        self.assert_none_of_them((0, "open", "e", "f"))
        self.assert_no_deeds([(2, "open", "f", "e"), (2, "open", "e", "a")])
        self.assert_no_deeds([(2, "open", "f", "e"), (3, "open", "e", "a")])
        self.assert_no_deeds([(2, "shut", "d"), (2, "open", "e", "d")])
        course_of([(3, "open", "f", "e"), (2, "open", "e", "a")])

    def test_deeds_of_a_post_that_was_shut(self):
        for deed in [(3, "leave", "d"), (3, "shut", "d"), (3, "open", "e", "d")]:
            self.assert_no_deeds([deed, (2, "shut", "d")])
            self.assert_no_deeds([(3, "shut", "d"), deed])
            course_of([deed, (4, "leave", "a")])

    def test_one_that_is_amiss_among_many(self):
        chance = random.Random(41)
        for _ in range(30):
            above_by = any_tree(chance, 8)
            standing = any_standing(chance, above_by)
            tree = dict(above_by)
            deeds = [any_deed(chance, tree, year) for year in range(20)]
            Course(Tree(above_by), standing, deeds=deeds)
            at = chance.randrange(21)
            bad = chance.choice([(at, "leave", "zz"), (at, "shut", name_of(0)), (at, "open", name_of(0), name_of(0)),
                                 (at, "open", "zz", "zy"), (at, "go", name_of(0)), (at, "leave"), None])
            self.assert_refused(NoDeeds, Course, Tree(above_by), standing, deeds=[*deeds[:at], bad, *deeds[at:]])

    def test_what_is_refused_stays_as_it_was(self):
        for given in [[(0, "leave", "a"), (0, "shut", "a")], [[0, "leave", "a"]], [(0, ["leave"], {"a": 1})]]:
            deeds = copy.deepcopy(given)
            self.assert_no_deeds(deeds)
            self.assertEqual(deeds, given)

    def test_a_text_of_its_own_equality_is_no_word_and_no_post(self):
        for deed in [(0, Sly(), "a"), (0, "leave", Sly()), (Sly(), "leave", "a"), (0, "open", "e", Sly()),
                     (0, "open", Sly(), "a")]:
            self.assert_none_of_them(deed)

    def test_posts_of_other_years_trees_are_refused_by_years(self):
        course = course_of([(3, "open", "e", "a"), (6, "shut", "e")])
        for year in [0, 2, 6, 7, 10 ** 40]:
            self.assert_refused(NoPost, course.holder, year, "e")
        for year in [3, 4, 5]:
            self.assertEqual(dict((post, folk) for folk, post in course.on_year(year))["e"], course.holder(year, "e"))


class Large(unittest.TestCase):
    def test_sixty_deeds_up_to_the_year_1000(self):
        chance = random.Random(42)
        for above_by in [chain(100), star(100), brush(100), STEPS]:
            tree = dict(above_by)
            deeds = [any_deed(chance, tree, 17 * at if at < 59 else 1000) for at in range(60)]
            standing = any_standing(chance, above_by)
            walk = PlainWalk(above_by, standing, deeds, 1180)
            course = Course(Tree(above_by), standing, deeds=deeds[::-1])
            self.assertEqual(course.orderly_year(), walk.orderly_year())
            for year in [*range(0, 1180, 17), *range(990, 1180)]:
                self.assertEqual(course.on_year(year), walk.standings[year])
                self.assertEqual(course.tree_of(year), Tree(walk.trees[year]))


if __name__ == "__main__":
    unittest.main()
