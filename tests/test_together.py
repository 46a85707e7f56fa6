"""[8.1], [0.2] (e): together, who can come to hold given pages."""

import time
import unittest
from itertools import combinations

from evenhands.errors import NoPage
from evenhands.groups import Group
from evenhands.reach import together
from tests.helper import anything, refused, told_of
from tests.reference import many_groups, page_each, rows_from, together_of
from tests.test_most import unlike_beginnings
from tests.test_plans import shared_groups


def all_sets(pages):
    return [some for many in range(len(pages) + 1) for some in combinations(pages, many)]


class TestTogether(unittest.TestCase):
    def test_no_pages(self):
        for group in [page_each(1), page_each(3), Group({"a": [], "b": []}), *shared_groups(),
                      Group({"b": ["x"], "a": []})]:
            self.assertEqual(together(group, []), group.people())
            self.assertEqual(together(group, ()), group.people())

    def test_one_page(self):
        group = Group({"d": [], "c": ["x"], "b": ["y"], "a": ["z", "v"]})
        self.assertEqual(together(group, ["x"]), ["a", "b", "c"])
        self.assertEqual(together(group, ["z"]), ["a", "b", "c"])
        group = Group({"d": [], "c": ["x"], "b": ["y"], "a": ["z", "u", "v"]})
        self.assertEqual(together(group, ["x"]), ["b", "c"])
        self.assertEqual(together(group, ["u"]), ["a"])

    def test_some_pages_in_any_order_and_twice(self):
        group = page_each(3)
        for pages in (["a", "b"], ["b", "a"], ("a", "b"), ["a", "b", "a", "b"], ("b", "b", "a")):
            self.assertEqual(together(group, pages), ["a", "b"])
        self.assertEqual(together(group, ["a"]), ["a", "b", "c"])
        self.assertEqual(together(group, ["a", "a"]), ["a", "b", "c"])

    def test_all_pages(self):
        self.assertEqual(together(page_each(2), ["a", "b"]), ["a", "b"])
        self.assertEqual(together(page_each(4), list("dcba")), list("abcd"))
        self.assertEqual(together(page_each(6), list("abcdef")), list("abcdef"))

    def test_each_for_itself(self):
        group = page_each(5)
        self.assertEqual(together(group, ["a", "b", "c", "e"]), ["a", "b", "c", "e"])
        self.assertEqual(together(group, ["a", "b", "c"]), list("abcde"))

    def test_nobody(self):
        self.assertEqual(together(page_each(3), ["a", "b", "c"]), [])
        self.assertEqual(together(page_each(5), list("abcde")), [])
        group = Group({"a": ["x"], "b": ["y"]}, leaves={"x": 2})
        self.assertEqual(together(group, ["y", "x"]), [])
        self.assertEqual(together(Group({"a": ["x"], "b": ["y"]}, barred=[("b", "a")]),
                                  ["y", "x"]), [])

    def test_those_who_hold_them_already(self):
        group = Group({"a": ["x", "y", "z"], "b": ["x"], "c": ["z", "y"]})
        self.assertEqual(together(group, ["x", "z"]), ["a"])
        self.assertEqual(together(group, ["y"]), ["a", "c"])

    def test_beside_all_that_can_be_come_to(self):
        for group in [unlike_beginnings(), page_each(4), page_each(5), *many_groups(400, 41)]:
            if len(group) < 6 or len(group.pages()) < 5:
                rows = rows_from(group)
                for pages in all_sets(group.pages()):
                    self.assertEqual(together(group, pages), together_of(rows, pages))


class TestRefused(unittest.TestCase):
    def test_no_page_of_anything(self):
        group = Group({"ann": ["x", "y"], "bob": ["z", "y"]})
        for thing in [*anything(), "w", "X", "xy", "ann", ["x"], ("x",), {"x": 1}]:
            refused(self, NoPage, {"name": thing}, together, group, [thing])
            refused(self, NoPage, {"name": thing}, together, group, ("x", "y", thing, "w", None))

    def test_the_first_that_is_none(self):
        refused(self, NoPage, {"name": "w"}, together, page_each(2), ["a", "w", "v", "b"])
        refused(self, NoPage, {"name": 3}, together, page_each(2), [3, "w"])
        refused(self, NoPage, {"name": "a"}, together, Group({"a": []}), ["a"])

    def test_no_list(self):
        for thing in anything():
            if not isinstance(thing, (list, tuple)):
                refused(self, NoPage, {"name": None}, together, page_each(2), thing)
        refused(self, NoPage, {"name": None}, together, page_each(2), "ab")
        refused(self, NoPage, {"name": None}, together, page_each(2), {"a": 1})

    def test_by_name(self):
        self.assertEqual(together(group=page_each(2), pages=["b"]), ["a", "b"])


class TestStays(unittest.TestCase):
    def test_what_is_handed_in_and_told(self):
        group = page_each(4)
        before = told_of(group)
        pages = ["d", "a", "d"]
        told = together(group, pages)
        self.assertEqual(pages, ["d", "a", "d"])
        told.clear()
        pages.append("w")
        self.assertEqual(together(group, ["d", "a", "d"]), list("abcd"))
        self.assertEqual(told_of(group), before)

    def test_nothing_is_kept_for_other_leaves_or_bars(self):
        held = {"a": ["x"], "b": ["y"]}
        for _ in range(2):
            self.assertEqual(together(Group(held), ["x", "y"]), ["a", "b"])
            self.assertEqual(together(Group(held, leaves={"y": 2}), ["x", "y"]), [])
            self.assertEqual(together(Group(held, barred=[("a", "b")]), ["x", "y"]), [])

    def test_it_is_fast(self):
        begun = time.process_time()
        self.assertEqual(together(page_each(6), ["a", "f"]), list("abcdef"))
        self.assertLess(time.process_time() - begun, 1)


if __name__ == "__main__":
    unittest.main()
