"""Points 9 and 10: turns, and words."""

import random
import unittest

from cases import all_small, any_deeds, any_standing, any_tree, brush, some_large, some_named, some_small, standing_of
from odd_things import BELOW_NONE, NAMES, NO_NAMES, NO_WHOLES, RefusalCase
from plain_walk import word_plain
from shapes import ALONE, CHAIN, STAR, STEPS, bush, chain, name_of, star
from stepposts.course import Course
from stepposts.errors import NoPost, NoYear
from stepposts.tree import Tree
from walked import large_walked, walked

FAR_YEARS = [5000, 10 ** 9, 10 ** 20 + 7, 10 ** 40 + 123456789, 10 ** 60 - 1, 10 ** 75]
FAR_TURNS = [1000, 10 ** 9 + 7, 10 ** 30, 10 ** 60 - 1, 10 ** 70]


def all_cases():
    return [*some_named(), *some_small()]


class TurnsCase(unittest.TestCase):
    def assert_turns(self, course, walk, step=1):
        first = walk.orderly_year()
        for post in list(walk.above_by)[::step]:
            turns = walk.turn_years(post)
            many = 0
            for year in range(first, len(walk.trees)):
                many += year in turns
                self.assertEqual(course.turns(post, year), many)
            for number, year in enumerate(turns, start=1):
                self.assertEqual(course.turn_year(post, number), year)

    def assert_words(self, course, walk):
        for year in range(walk.orderly_year(), len(walk.trees)):
            for post in walk.above_by:
                word = word_plain(walk.above_by, walk.standings[year], post)
                self.assertEqual(course.word(post, year), word)


class Turns(TurnsCase):
    def test_by_hand(self):
        # The words: of a it is b, b, c, d, e; of d it is e, f.
        tree = Tree({"a": None, "b": "a", "c": "b", "d": "a", "e": "d"})
        course = Course(tree, standing_of("abcde"))
        self.assertEqual([course.turns("a", year) for year in range(6)], [0, 1, 2, 3, 4, 5])
        self.assertEqual([course.turns("b", year) for year in range(6)], [0, 1, 2, 2, 2, 3])
        self.assertEqual([course.turns("c", year) for year in range(6)], [0, 1, 2, 2, 2, 3])
        self.assertEqual([course.turns("d", year) for year in range(6)], [0, 0, 0, 1, 2, 2])
        self.assertEqual([course.turn_year("b", number) for number in range(1, 6)], [1, 2, 5, 6, 9])
        self.assertEqual([course.turn_year("e", number) for number in range(1, 6)], [3, 4, 7, 8, 11])
        self.assertEqual(course.turns("e", 4 * 10 ** 50), 2 * 10 ** 50)
        self.assertEqual(course.turn_year("e", 2 * 10 ** 50 + 1), 4 * 10 ** 50 + 3)

    def test_the_head_has_one_each_year(self):
        for above_by, standing, deeds in [*all_cases(), *some_large()]:
            course = Course(Tree(above_by), standing, deeds=deeds)
            first = course.orderly_year()
            head = course.tree_of(first).head()
            for years in [0, 1, 2, 77, *FAR_YEARS]:
                self.assertEqual(course.turns(head, first + years), years)
                if years > 0:
                    self.assertEqual(course.turn_year(head, years), first + years)

    def test_small_trees_against_the_walk(self):
        for above_by, standing in all_small():
            self.assert_turns(*walked(above_by, standing, [], 8))

    def test_others_against_the_walk(self):
        for above_by, standing, deeds in all_cases():
            self.assert_turns(*walked(above_by, standing, deeds, 60))

    def test_large_trees_against_the_walk(self):
        for course, walk in large_walked():
            self.assert_turns(course, walk, 13)

    def test_a_long_walk(self):
        chance = random.Random(51)
        for above_by in [CHAIN, STAR, STEPS, bush(13, 2), brush(8)]:
            course, walk = walked(above_by, any_standing(chance, above_by), any_deeds(chance, above_by, 3, 6), 900)
            self.assert_turns(course, walk)

    def test_turns_and_their_years_against_each_other_near_and_far(self):
        for above_by, standing, deeds in [*some_named(), *some_large()]:
            course = Course(Tree(above_by), standing, deeds=deeds)
            first = course.orderly_year()
            for post in course.tree_of(first).posts()[::5]:
                for number in [1, 2, 3, 100, *FAR_TURNS]:
                    year = course.turn_year(post, number)
                    self.assertEqual(course.turns(post, year), number)
                    self.assertEqual(course.turns(post, year - 1), number - 1)
                for year in [first + 1, first + 5, *FAR_YEARS]:
                    number = course.turns(post, year)
                    self.assertGreater(course.turn_year(post, number + 1), year)
                    if number > 0:
                        self.assertLessEqual(course.turn_year(post, number), year)

    def test_far_turns_are_those_of_what_stands(self):
        for above_by, standing, deeds in [*some_named(), *some_large()]:
            course = Course(Tree(above_by), standing, deeds=deeds)
            for year in [*FAR_YEARS, course.orderly_year() + 1]:
                ahead = {post: folk for folk, post in course.on_year(year - 1)}
                now = {post: folk for folk, post in course.on_year(year)}
                for post in list(now)[::5]:
                    turn = course.turns(post, year) - course.turns(post, year - 1)
                    self.assertEqual(turn, int(ahead[post] != now[post]))

    def test_no_turns_in_the_orderly_year(self):
        for above_by, standing, deeds in [*all_cases(), *some_large()]:
            course = Course(Tree(above_by), standing, deeds=deeds)
            year = course.orderly_year()
            self.assertEqual({course.turns(post, year) for post in course.tree_of(year).posts()}, {0})

    def test_as_often_in_a_round_as_the_branch_has_posts(self):
        chance = random.Random(52)
        above_by = any_tree(chance, 100)
        course = Course(Tree(above_by), any_standing(chance, above_by))
        tree = Tree(above_by)
        # Behind each round of the head's word a post right below it had as many turns as its branch has posts.
        for post in tree.below(tree.head()):
            self.assertEqual(course.turns(post, course.orderly_year() + 99 * 10 ** 50), tree.size(post) * 10 ** 50)

    def test_kinds_of_what_is_told(self):
        course = Course(Tree(STEPS), standing_of(sorted(STEPS)))
        year = course.orderly_year()
        for told in [course.turns("root", year), course.turns("h", 10 ** 30), course.turn_year("h", 1)]:
            self.assertIs(type(told), int)


class Words(TurnsCase):
    def test_by_hand(self):
        tree = Tree({"a": None, "b": "a", "c": "b", "d": "a", "e": "d"})
        course = Course(tree, standing_of("abcde"))
        self.assertEqual(course.word("a", 0), ["b", "b", "d", "d"])
        self.assertEqual(course.word("a", 1), ["b", "d", "d", "b"])
        self.assertEqual(course.word("a", 10 ** 50 + 3), ["d", "b", "b", "d"])
        self.assertEqual(course.word("b", 10 ** 50), ["c"])
        self.assertEqual(course.word("c", 0), [])
        course = Course(tree, standing_of("adbce"))
        self.assertEqual(course.word("a", 0), ["d", "b", "b", "d"])

    def test_one_post_alone(self):
        course = Course(Tree(ALONE), [("x", "a")])
        for year in [0, 1, 2, *FAR_YEARS]:
            self.assertEqual(course.word("a", year), [])
            self.assertEqual(course.turns("a", year), year)

    def test_small_trees_against_the_walk(self):
        for above_by, standing in all_small():
            self.assert_words(*walked(above_by, standing, [], 6))

    def test_others_against_the_walk(self):
        for above_by, standing, deeds in all_cases():
            self.assert_words(*walked(above_by, standing, deeds, 25))

    def test_large_trees_in_some_years(self):
        for course, walk in large_walked():
            for year in [walk.orderly_year(), walk.orderly_year() + 1, len(walk.trees) - 1]:
                for post in list(walk.above_by)[::9]:
                    self.assertEqual(course.word(post, year), word_plain(walk.above_by, walk.standings[year], post))

    def test_far_words_are_those_of_what_stands(self):
        for above_by, standing, deeds in [*some_named(), *some_large()]:
            course = Course(Tree(above_by), standing, deeds=deeds)
            for year in FAR_YEARS:
                tree = course.tree_of(year)
                above_by = {post: tree.above(post) for post in tree.posts()}
                for post in tree.posts()[::9]:
                    self.assertEqual(course.word(post, year), word_plain(above_by, course.on_year(year), post))

    def test_the_first_letter_goes_to_the_end_at_each_turn(self):
        for above_by, standing, deeds in [*some_named(), *some_large()]:
            course = Course(Tree(above_by), standing, deeds=deeds)
            for post in course.tree_of(course.orderly_year()).posts()[::7]:
                for number in [1, 2, *FAR_TURNS]:
                    year = course.turn_year(post, number)
                    word = course.word(post, year - 1)
                    self.assertEqual(course.word(post, year), word[1:] + word[:1])
                    for later in [year, course.turn_year(post, number + 1) - 1]:
                        self.assertEqual(course.word(post, later), word[1:] + word[:1])

    def test_each_post_right_below_as_often_as_its_branch_has_posts(self):
        for above_by, standing, deeds in some_large():
            course = Course(Tree(above_by), standing, deeds=deeds)
            tree = course.tree_of(10 ** 30)
            for post in tree.posts():
                word = course.word(post, 10 ** 30)
                self.assertEqual(len(word), tree.size(post) - 1)
                self.assertEqual({one: word.count(one) for one in word}, {
                    one: tree.size(one) for one in tree.below(post)})

    def test_what_is_told_is_the_askers_own(self):
        course = Course(Tree(STEPS), standing_of(sorted(STEPS)), deeds=[(1, "leave", "c")])
        for year in [course.orderly_year(), course.orderly_year() + 1, 10 ** 40]:
            for post in sorted(STEPS):
                kept = list(course.word(post, year))
                for _ in range(100):
                    told = course.word(post, year)
                    self.assertIs(type(told), list)
                    self.assertEqual(told, kept)
                    self.assertIsNot(told, course.word(post, year))
                    told.append("zz")
                    told.reverse()
        self.assertEqual(course.word("g", 50), [])


class Refusals(RefusalCase):
    def setUp(self):
        deeds = [(3, "shut", "g"), (2, "open", "new", "b"), (1, "open", "old", "b"), (4, "shut", "old")]
        self.course = Course(Tree(STEPS), standing_of(sorted(STEPS, reverse=True)), deeds=deeds)
        self.first = self.course.orderly_year()
        self.assertGreater(self.first, 4)

    def test_what_is_no_post_goes_ahead_of_years(self):
        for post in [*NO_NAMES, "g", "old", "zz", "none", "roo"]:
            with self.subTest(post=repr(post)):
                for number in [self.first, self.first + 1, 10 ** 50, 1, 0, -1, None, True, "1", []]:
                    self.assert_refused(NoPost, self.course.turns, post, number)
                    self.assert_refused(NoPost, self.course.word, post, number)
                    self.assert_refused(NoPost, self.course.turn_year, post, number)
        self.assert_refused(NoPost, self.course.turns, year=-1, post="g")
        self.assert_refused(NoPost, self.course.word, year=-1, post="g")
        self.assert_refused(NoPost, self.course.turn_year, number=0, post="g")

    def test_years_that_are_none(self):
        for post in self.course.tree_of(self.first).posts():
            for ask in [self.course.turns, self.course.word]:
                self.assert_all_refused(NoYear, lambda year: ask(post, year), NO_WHOLES + BELOW_NONE + NAMES)
                ask(post, self.first)

    def test_years_ahead_of_the_orderly_one(self):
        for post in self.course.tree_of(self.first).posts():
            for year in range(self.first):
                self.assert_refused(NoYear, self.course.turns, post, year)
                self.assert_refused(NoYear, self.course.word, post=post, year=year)

    def test_numbers_of_turns_that_are_none(self):
        for post in ["root", "b", "new", "k"]:
            things = [0, *NO_WHOLES, *BELOW_NONE, *NAMES]
            self.assert_all_refused(NoYear, lambda number: self.course.turn_year(post, number), things)
            self.assertGreater(self.course.turn_year(post=post, number=1), self.first)

    def test_posts_that_were_opened_or_stayed(self):
        for post in self.course.tree_of(10 ** 9).posts():
            self.assertEqual(self.course.turns(post=post, year=self.first), 0)
        self.assertEqual(self.course.word("new", self.first), [])
        self.assertEqual(self.course.word("k", self.first), [])


class Depth(unittest.TestCase):
    def test_calls_go_no_deeper_with_a_longer_chain(self):
        for many in [100, 1200]:
            course = Course(Tree(chain(many)), standing_of([name_of(at) for at in range(many)]))
            last = name_of(many - 1)
            self.assertEqual(course.turns(last, 10 ** 59), 10 ** 59)
            self.assertEqual(course.turn_year(last, 10 ** 59), 10 ** 59)
            self.assertEqual(course.word(name_of(many - 2), 10 ** 59), [last])

    def test_all_others_right_below_the_head(self):
        posts = [name_of(at) for at in range(100)]
        course = Course(Tree(star(100)), standing_of(posts))
        for at in range(1, 100):
            self.assertEqual(course.turns(posts[at], 99 * 10 ** 57 + at - 1), 10 ** 57)
            self.assertEqual(course.turn_year(posts[at], 10 ** 57 + 1), 99 * 10 ** 57 + at)
        self.assertEqual(course.word(posts[0], 99 * 10 ** 57 + 3), posts[4:] + posts[1:4])


if __name__ == "__main__":
    unittest.main()
