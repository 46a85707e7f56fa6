"""[5.3], [0.2] (b): the paper that there is no plan."""

import unittest

from evenhands.calls import behind
from evenhands.groups import Group
from evenhands.matchings import barrier, least_ones, matchings, parts
from evenhands.plans import plan
from tests.helper import some_groups, told_of
from tests.reference import joined_by, many_groups, page_each, paper_of, with_state


def wide():
    """Five pages, two people hold the same: many matchings, one after the other, and no plan."""
    return Group(dict(zip("abcdef", [["v"], ["w"], ["x"], ["y"], ["z"], ["v"]])))


def papers():
    """Pairs of a group without a plan, of many, and the paper told of it."""
    for group in [page_each(3), page_each(5), wide(), *some_groups(),
                  *many_groups(500, 61)]:
        word, paper = plan(group)
        if word == "none":
            yield group, paper


class TestOneState(unittest.TestCase):
    def test_odd_in_number(self):
        self.assertEqual(plan(page_each(3)), ("none", {(("a",), ("b",), ("c",)): ()}))
        self.assertEqual(plan(Group({"b": ["x", "y"], "a": ["x"]})),
                         ("none", {(("x",), ("x", "y")): ()}))
        self.assertEqual(plan(page_each(3), by="rounds"), plan(page_each(3)))

    def test_one_in_the_middle(self):
        group = Group({"a": ["x"], "b": ["x"], "c": ["y"], "d": ["x"]})
        self.assertEqual(plan(group), ("none", {(("x",), ("x",), ("y",), ("x",)): ("c",)}))

    def test_barred(self):
        group = joined_by("abcdef", [(one, "f") for one in "abcde"])
        self.assertEqual(plan(group), ("none", {group.state(): ("f",)}))


class TestSeveralStates(unittest.TestCase):
    def test_by_one_matching(self):
        group = Group({"a": ["x"], "b": ["y"], "c": ["x", "y", "z"]})
        self.assertEqual(plan(group), ("none", {
            (("x",), ("y",), ("x", "y", "z")): None,
            (("x", "y"), ("x", "y"), ("x", "y", "z")): ()}))

    def test_by_two_matchings_to_one_state(self):
        group = Group({"a": ["x"], "b": ["y"], "c": ["x"], "d": ["y"], "e": ["x", "y", "z"]})
        both = ("x", "y")
        self.assertEqual(plan(group), ("none", {
            (("x",), ("y",), ("x",), ("y",), ("x", "y", "z")): None,
            (both, both, both, both, ("x", "y", "z")): ()}))

    def test_by_bars(self):
        group = joined_by("abcd", [("a", "b"), ("b", "c"), ("c", "d")])
        ab, cd = ("a", "b"), ("c", "d")
        self.assertEqual(plan(group), ("none", {
            (("a",), ("b",), ("c",), ("d",)): None, (ab, ab, cd, cd): ()}))

    def test_states_rise(self):
        several = 0
        for _, paper in papers():
            self.assertEqual(list(paper), sorted(paper))
            several += len(paper) > 2
        self.assertGreater(several, 10)
        self.assertGreater(len(plan(wide())[1]), 90)

    def test_of_both_ways_the_same(self):
        for group, paper in papers():
            self.assertEqual(list(plan(group, by="rounds")[1].items()), list(paper.items()))


class TestOfManyGroups(unittest.TestCase):
    def test_just_the_states_that_come_and_their_barriers(self):
        for group, paper in papers():
            self.assertEqual(list(paper.items()), list(paper_of(group).items()))

    def test_it_shows_that_there_is_none(self):
        for group, paper in papers():
            self.assertIn(group.state(), paper)
            for state, some in paper.items():
                now = with_state(group, state)
                self.assertEqual(some, barrier(now))
                self.assertFalse(now.shared())
                if some is None:
                    for matching in matchings(now):
                        self.assertIn(behind(now, matching).state(), paper)
                else:
                    self.assertEqual(matchings(now), [])
                    self.assertLessEqual(set(some), set(least_ones(now)))
                    odd = [part for part in parts(now, some) if len(part) % 2]
                    self.assertGreater(len(odd), len(some))


class TestNothingHangsOnIt(unittest.TestCase):
    def test_the_asker_has_it_alone(self):
        group = wide()
        paper = plan(group)[1]
        whole = dict(paper)
        paper.clear()
        self.assertEqual(plan(group), ("none", whole))
        self.assertEqual(told_of(group), told_of(wide()))

    def test_leaves_and_bars_of_another_group(self):
        held = {"a": ["x"], "b": ["y"], "c": ["x"], "d": ["y"]}
        state = (("x",), ("y",), ("x",), ("y",))
        for _ in range(2):
            self.assertEqual(plan(Group(held))[0], "plan")
            barred = Group(held, barred=[("a", "b"), ("a", "d")])
            self.assertEqual(plan(barred), ("none", {state: ()}))
            self.assertEqual(plan(Group(held, leaves={"x": 2})), ("none", {state: ()}))


if __name__ == "__main__":
    unittest.main()
