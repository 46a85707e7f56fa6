"""[8.1], [0.2] (e): most, what one can come to hold at most."""

import time
import unittest
from itertools import combinations

from evenhands.calls import behind, may
from evenhands.errors import NoPerson
from evenhands.groups import Group
from evenhands.reach import most
from evenhands.rising import rising, weights_of
from tests.helper import anything, refused, some_groups, told_of
from tests.reference import many_groups, most_of, page_each, rows_from
from tests.test_paper import wide
from tests.test_plans import shared_groups


def unlike_beginnings():
    """For e of it two rows of two calls lead to the most: they begin at unlike weights."""
    return Group({"a": ["x", "y"], "b": ["w"], "c": ["u", "v", "y"], "d": ["x"], "e": ["u", "y"]})


class TestMost(unittest.TestCase):
    def test_nothing_to_gain(self):
        self.assertEqual(most(page_each(1), "a"), (1, []))
        group = Group({"a": [], "b": ["x"], "c": ["y", "z"], "d": ["x"]}, leaves={"z": 9})
        for person, weight in {"a": 0, "b": 1, "c": 10, "d": 1}.items():
            self.assertEqual(most(group, person), (weight, []))

    def test_of_those_who_hold_all(self):
        for group in shared_groups():
            for person in group.people():
                self.assertEqual(most(group, person), (group.weight(person), []))
        group = Group({"a": ["x"], "b": ["y"], "c": ["x", "y", "z"]}, leaves={"z": 3})
        self.assertEqual(most(group, "c"), (5, []))
        self.assertEqual(most(group, "a"), (2, [("a", "b")]))

    def test_two_and_three(self):
        self.assertEqual(most(page_each(2), "a"), (2, [("a", "b")]))
        self.assertEqual(most(page_each(2), "b"), (2, [("a", "b")]))
        self.assertEqual(most(page_each(3), "b"), (2, [("a", "b")]))
        self.assertEqual(most(page_each(3), "c"), (2, [("a", "c")]))

    def test_four(self):
        first = [("a", "b"), ("c", "d")]
        for person, last in {"a": "ac", "b": "bc", "c": "ac", "d": "ad"}.items():
            self.assertEqual(most(page_each(4), person), (4, [*first, tuple(last)]))

    def test_five(self):
        self.assertEqual(most(page_each(5), "a"), (4, [("a", "b"), ("c", "d"), ("a", "c")]))
        self.assertEqual(most(page_each(5), "e"), (4, [("a", "b"), ("c", "e"), ("a", "e")]))

    def test_six(self):
        first = [("a", "b"), ("c", "d"), ("e", "f"), ("a", "c")]
        self.assertEqual(most(page_each(6), "a"), (6, [*first, ("b", "e"), ("a", "b")]))
        self.assertEqual(most(page_each(6), "f"), (6, [*first, ("b", "f"), ("a", "f")]))

    def test_unlike_leaves(self):
        group = Group({"a": ["x"], "b": ["y"], "c": ["z"], "d": ["v", "w"]},
                      leaves={"x": 2, "y": 2, "z": 4})
        self.assertEqual(most(group, "a"), (8, [("a", "b"), ("a", "c")]))
        self.assertEqual(most(group, "b"), (8, [("a", "b"), ("b", "c")]))
        self.assertEqual(most(group, "d"), (8, [("a", "d"), ("c", "d")]))
        group = Group({"a": ["x"], "b": ["y"], "c": ["z"]}, leaves={"x": 9, "y": 9, "z": 8})
        self.assertEqual(most(group, "b"), (18, [("a", "b")]))
        self.assertEqual(most(group, "c"), (8, []))

    def test_a_greater_weight_by_more_calls(self):
        group = Group({"a": ["t", "u"], "b": ["t", "v"], "c": ["x"], "d": ["y"]})
        self.assertEqual(behind(group, [("c", "d"), ("a", "c")]).weight("a"), 4)
        self.assertEqual(most(group, "a"), (5, [("c", "d"), ("a", "c"), ("b", "d"), ("a", "b")]))

    def test_barred_pairs(self):
        held = {person: [person] for person in "abcd"}
        group = Group(held, barred=[("a", "b")])
        self.assertEqual(most(group, "a"), (4, [("a", "c"), ("b", "d"), ("a", "d")]))
        group = Group(held, barred=[("b", "a"), ("c", "a"), ("a", "d")])
        self.assertEqual(most(group, "a"), (1, []))
        self.assertEqual(most(group, "d"), (2, [("b", "d")]))
        group = Group(held, barred=[("a", "b"), ("c", "b"), ("d", "b")])
        self.assertEqual(most(group, "a"), (2, [("a", "c")]))

    def test_the_least_of_rows_that_begin_at_unlike_weights(self):
        group = unlike_beginnings()
        other = [("b", "d"), ("b", "e")]
        row = [("a", "e"), ("c", "e")]
        self.assertEqual(behind(group, other).weight("e"), 4)
        self.assertEqual(weights_of(group, other)[0], 1)
        self.assertEqual(weights_of(group, row)[0], 2)
        self.assertEqual(most(group, "e"), (4, row))

    def test_the_row_is_rising_and_can_be_made(self):
        for group in [page_each(6), wide(), unlike_beginnings(), *many_groups(400, 31)]:
            for person in group.people():
                weight, row = most(group, person)
                self.assertIs(type(row), list)
                self.assertEqual(rising(group, row), row)
                self.assertEqual(behind(group, row).weight(person), weight)
                self.assertIs(type(weight), int)

    def test_beside_all_that_can_be_come_to(self):
        small = [group for group in many_groups(400, 32) if len(group) < 6]
        for group in [unlike_beginnings(), page_each(4), page_each(5), *small]:
            rows = rows_from(group)
            for person in group.people():
                self.assertEqual(most(group, person), most_of(rows, person))

    def test_beside_all_of_six_people(self):
        for group in many_groups(250, 33):
            if len(group) == 6 and len(group.pages()) < 6:
                rows = rows_from(group)
                for person in group.people():
                    self.assertEqual(most(group, person), most_of(rows, person))

    def test_beside_one_call(self):
        for group in some_groups():
            people = group.people()
            for person in people:
                more = [pair for pair in combinations(people, 2)
                        if person in pair and may(group, *pair)]
                weight, row = most(group, person)
                self.assertEqual(row == [], more == [] and weight == group.weight(person))


class TestRefused(unittest.TestCase):
    def test_no_person_of_anything(self):
        for group in (page_each(2), Group({"ann": ["x"], "bob": ["y"]})):
            for thing in [*anything(), "x", "z", ["a"], ("a", "b")]:
                if thing not in group.people():
                    refused(self, NoPerson, {"name": thing}, most, group, thing)

    def test_by_name(self):
        self.assertEqual(most(group=page_each(2), person="b"), (2, [("a", "b")]))


class TestStays(unittest.TestCase):
    def test_lists_are_the_askers_own(self):
        group = page_each(4)
        before = told_of(group)
        first = most(group, "a")
        most(group, "a")[1].clear()
        most(group, "b")
        self.assertEqual(most(group, "a"), first)
        self.assertEqual(told_of(group), before)

    def test_nothing_is_kept_for_other_leaves_or_bars(self):
        held = {"a": ["x"], "b": ["y"], "c": ["z"]}
        for _ in range(2):
            self.assertEqual(most(Group(held), "a"), (2, [("a", "b")]))
            self.assertEqual(most(Group(held, leaves={"y": 3}), "a"), (2, [("a", "c")]))
            self.assertEqual(most(Group(held, barred=[("a", "b")]), "a"), (2, [("a", "c")]))

    def test_it_is_fast(self):
        begun = time.process_time()
        self.assertEqual(most(page_each(6), "c")[0], 6)
        self.assertLess(time.process_time() - begun, 1)


if __name__ == "__main__":
    unittest.main()
