"""[9.1]: written, fresh."""

import unittest

from evenhands.errors import NoNumber, NoPage, NoPerson, TooMany, Twice
from evenhands.groups import Group, is_name
from evenhands.writing import fresh, written
from tests.helper import anything, refused, told_of
from tests.reference import many_groups

NO_LEAVES = [0, -1, 10, 11, 10 ** 20, True, False, None, "", "1", "a", [], [1], (), (1,), {}, {1: 1}]


def some_group():
    return Group({"ann": ["x", "z"], "bob": ["y"], "cid": []}, leaves={"z": 3},
                 barred=[("cid", "ann")])


def twelve_pages():
    return Group({"ann": list("abcdef"), "bob": list("ghijkl")})


class TestWritten(unittest.TestCase):
    def test_without_leaves(self):
        expected = Group({"ann": ["x", "z"], "bob": ["y", "w"], "cid": []}, leaves={"z": 3},
                         barred=[("ann", "cid")])
        group = written(some_group(), "bob", "w")
        self.assertIs(type(group), Group)
        self.assertEqual(told_of(group), told_of(expected))
        self.assertEqual(group, expected)
        self.assertEqual(group.held("bob"), ("w", "y"))

    def test_with_leaves(self):
        for leaves in range(1, 10):
            group = written(some_group(), "cid", "new", leaves=leaves)
            self.assertEqual(group, Group({"ann": ["x", "z"], "bob": ["y"], "cid": ["new"]},
                                          leaves={"z": 3, "new": leaves}, barred=[("ann", "cid")]))
            self.assertEqual(group.weight("cid"), leaves)

    def test_by_place_and_by_name(self):
        group = written(group=some_group(), person="ann", page="w", leaves=2)
        self.assertEqual(group, written(some_group(), "ann", "w", leaves=2))
        self.assertEqual(written(some_group(), page="w", person="ann"),
                         written(some_group(), "ann", "w", leaves=1))
        with self.assertRaises(TypeError):
            written(some_group(), "ann", "w", 2)

    def test_a_page_called_like_a_person(self):
        self.assertEqual(written(some_group(), "ann", "ann").held("ann"), ("ann", "x", "z"))

    def test_the_group_ahead_stays(self):
        group = some_group()
        before = told_of(group)
        later = written(group, "bob", "w", leaves=4)
        self.assertEqual(told_of(group), before)
        self.assertEqual(group, some_group())
        self.assertNotEqual(group, later)

    def test_a_twelfth_page(self):
        group = Group({"ann": list("abcdef"), "bob": list("ghijk")})
        self.assertEqual(written(group, "bob", "l"), twelve_pages())


class TestRefused(unittest.TestCase):
    def test_no_person(self):
        for thing in [*anything(), "x", ["ann"]]:
            refused(self, NoPerson, {"name": thing}, written, some_group(), thing, "w")
            refused(self, NoPerson, {"name": thing}, written, some_group(), thing, "?", leaves=0)

    def test_no_page(self):
        for thing in anything():
            if not is_name(thing):
                refused(self, NoPage, {"name": thing}, written, some_group(), "ann", thing)
                refused(self, NoPage, {"name": thing}, written, twelve_pages(), "bob", thing,
                        leaves="?")

    def test_twice(self):
        for page in "xyz":
            refused(self, Twice, {"name": page}, written, some_group(), "ann", page)
            refused(self, Twice, {"name": page}, written, some_group(), "cid", page, leaves=10)
        refused(self, Twice, {"name": "l"}, written, twelve_pages(), "ann", "l", leaves=0)

    def test_no_number(self):
        for thing in NO_LEAVES:
            refused(self, NoNumber, {}, written, some_group(), "ann", "w", leaves=thing)
            refused(self, NoNumber, {}, written, twelve_pages(), "ann", "w", leaves=thing)

    def test_too_many(self):
        for leaves in (1, 9):
            refused(self, TooMany, {}, written, twelve_pages(), "ann", "w", leaves=leaves)

    def test_nothing_is_changed(self):
        group = some_group()
        before = told_of(group)
        for things in [("zed", "w", 1), ("ann", "W", 1), ("ann", "y", 1), ("ann", "w", 0)]:
            with self.assertRaises(ValueError):
                written(group, things[0], things[1], leaves=things[2])
        self.assertEqual(told_of(group), before)


class TestFresh(unittest.TestCase):
    def test_a(self):
        for group in (Group({"a": []}), some_group(), Group({"ann": ["b", "aa"]})):
            self.assertEqual(fresh(group), "a")

    def test_the_first_letter_that_is_free(self):
        self.assertEqual(fresh(Group({"ann": ["a", "c"], "b": ["d"]})), "b")
        self.assertEqual(fresh(Group({"ann": ["a"], "bob": ["b"], "d": ["aa"]})), "c")
        self.assertEqual(fresh(twelve_pages()), "m")
        self.assertEqual(fresh(Group({"bob": list("abcdefghijk"), "ann": ["z"]})), "l")

    def test_of_many(self):
        for group in many_groups(100, 71):
            for at, letter in enumerate("abcdefgh"):
                self.assertEqual(fresh(group), letter)
                if len(group.pages()) == 12:
                    break
                group = written(group, group.people()[at % len(group)], letter)


if __name__ == "__main__":
    unittest.main()
