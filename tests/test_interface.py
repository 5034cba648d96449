"""The interface: what it lists is defined where it says so, with its names and arguments."""

import importlib
import inspect
import os
import subprocess
import sys
import unittest

import stepposts
from cases import standing_of
from shapes import STEPS, bush, chain, name_of, star
from stepposts.course import Course
from stepposts.patterns import by_words, held_against, led_back, orderly_many, pattern_turns, pattern_years
from stepposts.standing import is_orderly, next_year
from stepposts.tree import Tree

FUNCTIONS = {
    "standing": {"is_orderly": "tree standing", "next_year": "tree standing"},
    "patterns": {
        "orderly_many": "tree", "by_words": "tree folk words", "pattern_years": "course",
        "pattern_turns": "course post", "held_against": "one other", "led_back": "tree standing folk",
    },
}

CLASSES = {
    "tree": ("Tree", "above_by", {
        "head": "", "posts": "", "above": "post", "below": "post", "branch": "post", "size": "post",
    }),
    "course": ("Course", "tree standing deeds", {
        "on_year": "year", "tree_of": "year", "orderly_year": "", "turns": "post year", "turn_year": "post number",
        "word": "post year", "holder": "year post", "stands": "folk year", "way": "folk", "comes_to": "year",
        "right_above": "folk other", "in_branch": "folk post", "over": "folk",
    }),
}


def arguments(function):
    return list(inspect.signature(function).parameters)


class Interface(unittest.TestCase):
    def test_functions(self):
        for file, functions in FUNCTIONS.items():
            module = importlib.import_module(f"stepposts.{file}")
            for name, names in functions.items():
                function = getattr(module, name)
                self.assertTrue(inspect.isfunction(function))
                self.assertEqual(function.__module__, f"stepposts.{file}")
                self.assertEqual(arguments(function), names.split())
                self.assert_by_place_or_name(function, names.split())

    def test_classes_and_their_own_methods(self):
        for file, (name, names, methods) in CLASSES.items():
            made = getattr(importlib.import_module(f"stepposts.{file}"), name)
            self.assertTrue(inspect.isclass(made))
            self.assertEqual(made.__module__, f"stepposts.{file}")
            self.assertEqual(arguments(made), names.split())
            for method, its_names in methods.items():
                self.assertIn(method, vars(made))
                self.assertEqual(arguments(vars(made)[method]), ["self", *its_names.split()])
                self.assert_by_place_or_name(vars(made)[method], its_names.split())

    def assert_by_place_or_name(self, function, names):
        parameters = inspect.signature(function).parameters
        for name in names:
            self.assertIs(parameters[name].kind, inspect.Parameter.POSITIONAL_OR_KEYWORD)
            self.assertIs(parameters[name].default, inspect.Parameter.empty)

    def test_deeds_are_none_and_by_their_name_alone(self):
        parameter = inspect.signature(Course).parameters["deeds"]
        self.assertIs(parameter.kind, inspect.Parameter.KEYWORD_ONLY)
        self.assertIsNone(parameter.default)

    def test_the_folder_holds_nothing_but_files_of_python(self):
        for _, folders, files in os.walk(os.path.dirname(stepposts.__file__)):
            self.assertEqual(folders, [])
            self.assertIn("__init__.py", files)
            self.assertEqual([file for file in files if not file.endswith(".py")], [])

    def test_each_module_is_imported_alone(self):
        for module in ["errors", "tree", "standing", "course", "patterns"]:
            done = subprocess.run([sys.executable, "-B", "-c", f"import stepposts.{module}"], check=False)
            self.assertEqual(done.returncode, 0)


class Depth(unittest.TestCase):
    def test_all_questions_with_few_calls_left(self):
        # A chain of a hundred posts would need as many calls within calls, if calls went down it.
        kept = sys.getrecursionlimit()
        deep = len(inspect.stack()) + 40
        for above_by in [chain(100), bush(100, 2), star(100)]:
            posts = [name_of(at) for at in range(100)]
            sys.setrecursionlimit(deep)
            try:
                self.ask_all(above_by, posts)
            finally:
                sys.setrecursionlimit(kept)

    def ask_all(self, above_by, posts):
        tree = Tree(above_by)
        standing = standing_of(posts)
        is_orderly(tree, standing)
        next_year(tree, standing)
        last = posts[-1]
        course = Course(tree, standing_of(posts[::-1]), deeds=[(3, "open", "zz", last), (9, "leave", last)])
        far = 10 ** 59
        course.on_year(far)
        course.tree_of(far)
        course.turns(last, far)
        course.turn_year(last, far)
        course.word(posts[0], far)
        course.holder(far, last)
        course.stands((far, 0), far)
        course.comes_to(far)
        for folk in [(far, 0), (3, 1), standing[0][0]]:
            course.way(folk)
            course.over(folk)
            course.right_above(folk, (far, 0))
            course.in_branch(folk, posts[50])
        orderly_many(tree)
        pattern_years(course)
        pattern_turns(course, last)
        held_against(course, course)
        by_words(tree, [folk for folk, _ in standing], {
            post: Course(tree, standing).word(post, 0) for post in tree.posts()})
        led_back(tree, standing, "went")


class SameAgain(unittest.TestCase):
    def told(self, course, tree):
        far = 10 ** 40
        return [
            course.on_year(0), course.on_year(7), course.on_year(far), course.orderly_year(), course.way((3, 0)),
            course.over((far, 0)), course.word("c", far), course.turns("h", far), course.turn_year("h", 77),
            course.comes_to(4), course.in_branch((9, 0), "c"), pattern_years(course), tree.posts(), tree.head(),
        ]

    def test_a_course_stays_as_it_was_whatever_is_asked(self):
        tree = Tree(STEPS)
        one = Course(tree, standing_of(sorted(STEPS)), deeds=[(2, "leave", "c"), (2, "open", "new", "g")])
        other = Course(tree, standing_of(sorted(STEPS, reverse=True)))
        kept = self.told(one, tree), self.told(other, tree)
        for _ in range(100):
            self.assertEqual((self.told(one, tree), self.told(other, tree)), kept)
        self.assertEqual(tree, Tree(STEPS))

    def test_the_order_of_questions_tells_nothing(self):
        first = Course(Tree(STEPS), standing_of(sorted(STEPS)))
        second = Course(Tree(STEPS), standing_of(sorted(STEPS)))
        years = [10 ** 59, 50, 3, 0, 7, 12, 10 ** 30]
        told = {year: first.on_year(year) for year in years}
        self.assertEqual({year: second.on_year(year) for year in sorted(years)}, told)

    def test_the_dicts_order_tells_nothing(self):
        items = list(STEPS.items())
        for order in [items[::-1], sorted(items), sorted(items)[::-1], items[5:] + items[:5]]:
            trees = [Tree(STEPS), Tree(dict(order))]
            courses = [Course(tree, standing_of(sorted(STEPS)), deeds=[(3, "leave", "b")]) for tree in trees]
            self.assertEqual(self.told(courses[0], trees[0]), self.told(courses[1], trees[1]))


if __name__ == "__main__":
    unittest.main()
