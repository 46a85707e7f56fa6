"""[5.1], [5.2], [0.2] (b): plan, where there is one, and how_many."""

import time
import unittest
from itertools import combinations, product

from evenhands.calls import behind, signs_against
from evenhands.errors import NoWay
from evenhands.groups import Group
from evenhands.matchings import least_ones, matchings
from evenhands.plans import CALLS, ROUNDS, how_many, plan
from evenhands.rising import heights
from tests.helper import anything, refused, some_groups, told_of
from tests.reference import (
    best_plan, calls_in, many_groups, page_each, plans_of, rounds_by_hand, row_of_calls)

SIX = ((("a", "b"), ("c", "d"), ("e", "f")), (("a", "c"), ("b", "e"), ("d", "f")),
       (("a", "b"), ("c", "d"), ("e", "f")))


def shared_groups():
    return [Group({"a": []}), Group({"a": ["x"]}), Group({"b": [], "a": []}),
            Group({"a": ["x", "y"], "b": ["y", "x"], "c": ["x", "y"]}, barred=[("a", "b")])]


def of_many_calls():
    """Its plans with the fewest rounds have 7 calls, or more."""
    return Group({"a": ["u", "v"], "b": ["w"], "c": ["x"], "d": ["v"], "e": ["u", "x"],
                  "f": ["v"]})


def of_many_rounds():
    """Its plans with the fewest calls have 2 rounds, or more."""
    return Group({"a": ["v", "x"], "b": ["v", "y"], "c": ["v", "w"], "d": ["u", "w"],
                  "e": ["u", "y"], "f": ["x", "y"]}, leaves={"u": 2, "v": 2, "y": 2})


def without_plan():
    return [page_each(3), page_each(5), Group({"a": ["x"], "b": []}),
            Group({"a": ["x"], "b": ["y"]}, leaves={"y": 2}),
            Group({"a": ["x"], "b": ["y"]}, barred=[("a", "b")]),
            Group({"a": ["x"], "b": ["x"], "c": ["x", "y"], "d": ["y", "x"]})]


class TestPlan(unittest.TestCase):
    def both(self, group, expected):
        self.assertEqual(plan(group), ("plan", expected))
        self.assertEqual(plan(group, by=ROUNDS), ("plan", expected))

    def test_of_a_group_that_shares_all(self):
        for group in shared_groups():
            self.both(group, ())

    def test_two_four_and_six_with_a_page_each(self):
        self.both(page_each(2), ((("a", "b"),),))
        self.both(page_each(4), ((("a", "b"), ("c", "d")), (("a", "c"), ("b", "d"))))
        self.both(page_each(6), SIX)

    def test_one_with_a_page(self):
        self.both(page_each(1), ())

    def test_people_who_hold_all_and_heavier_ones_stay_out(self):
        group = Group({"a": ["x", "y"], "b": ["x"], "c": ["y"]})
        self.both(group, ((("b", "c"),),))
        group = Group({"a": ["x", "y", "z"], "b": ["x"], "c": ["y"], "d": ["x", "z"],
                       "e": ["y", "z"]})
        self.both(group, ((("b", "c"),), (("b", "d"), ("c", "e"))))

    def test_the_fewest_rounds_in_the_fewest_calls(self):
        group = of_many_calls()
        plans = [levels for levels in plans_of(group) if len(rounds_by_hand(levels)) == 3]
        self.assertEqual({calls_in(levels) for levels in plans}, {7, 8})
        best = ((("b", "d"), ("c", "f")), (("a", "c"), ("b", "e"), ("d", "f")),
                (("a", "d"), ("c", "f")))
        self.assertLess(min(plans), best)
        self.both(group, best)

    def test_the_fewest_calls_in_the_fewest_rounds(self):
        group = of_many_rounds()
        plans = [levels for levels in plans_of(group) if calls_in(levels) == 6]
        self.assertEqual({len(rounds_by_hand(levels)) for levels in plans}, {2, 3})
        best = ((("a", "d"), ("c", "f")), (("b", "e"),), (("a", "b"), ("c", "d"), ("e", "f")))
        self.assertLess(min(plans), best)
        self.both(group, best)

    def test_of_alike_ones_the_least(self):
        for group in (page_each(4), of_many_calls(), of_many_rounds()):
            found = plan(group)[1]
            alike = [levels for levels in plans_of(group) if calls_in(levels) == calls_in(found)
                     and len(rounds_by_hand(levels)) == len(rounds_by_hand(found))]
            self.assertGreater(len(alike), 1)
            self.assertEqual(found, min(alike))

    def test_where_there_is_none(self):
        for group in without_plan():
            for by in (CALLS, ROUNDS):
                word, paper = plan(group, by=by)
                self.assertEqual((word, type(paper)), ("none", dict))

    def test_ways(self):
        self.assertEqual((CALLS, ROUNDS), ("calls", "rounds"))
        for by in (CALLS, ROUNDS, "calls", "rounds"):
            self.assertEqual(plan(page_each(6), by=by), ("plan", SIX))
        self.assertEqual(plan(by="rounds", group=page_each(2)), plan(page_each(2)))

    def test_by_name_alone(self):
        with self.assertRaises(TypeError):
            plan(page_each(2), "calls")

    def test_no_way(self):
        for group in (page_each(2), page_each(3), page_each(1)):
            for thing in [*anything(), "call", "round", "Calls", "ROUNDS", "calls ", ("calls",),
                          ["rounds"], {"calls": "rounds"}]:
                refused(self, NoWay, {}, plan, group, by=thing)

    def test_kinds(self):
        told = plan(page_each(4))
        self.assertIs(type(told), tuple)
        self.assertIs(type(told[1]), tuple)
        for matching in told[1]:
            self.assertIs(type(matching), tuple)
            self.assertEqual({type(pair) for pair in matching}, {tuple})


class TestHowMany(unittest.TestCase):
    def test_one_where_all_is_shared(self):
        for group in shared_groups():
            self.assertEqual(how_many(group), 1)

    def test_none(self):
        for group in without_plan():
            self.assertEqual(how_many(group), 0)

    def test_with_a_page_each(self):
        self.assertEqual([how_many(page_each(many)) for many in range(1, 7)],
                         [1, 1, 0, 6, 0, 960])

    def test_as_many_as_there_are(self):
        self.assertEqual(how_many(of_many_calls()), 80)
        self.assertEqual(how_many(of_many_rounds()), 12)

    def test_as_many_as_behind_all_matchings(self):
        for group in [page_each(6), of_many_calls(), of_many_rounds(), *many_groups(200, 51)]:
            if not group.shared():
                later = [how_many(behind(group, matching)) for matching in matchings(group)]
                self.assertEqual(how_many(group), sum(later))

    def test_a_number(self):
        for group in (page_each(1), page_each(3), page_each(4)):
            self.assertIs(type(how_many(group)), int)
        self.assertEqual(how_many(group=page_each(4)), 6)


class TestOfManyGroups(unittest.TestCase):
    def groups(self):
        yield from some_groups()
        yield from many_groups(500, 52)
        lots = [("w",), ("x",), ("y",), ("w", "x"), ("x", "y"), ("y", "z"), ("w", "z")]
        for row in product(lots, repeat=3):
            yield Group({"d": ("y", "z"), **dict(zip("abc", row))})

    def test_plan_and_how_many(self):
        seen = {"plan": 0, "none": 0}
        for group in self.groups():
            calls = best_plan(group, "calls")
            told = plan(group)
            seen[told[0]] += 1
            self.assertEqual(told[0], "none" if calls is None else "plan")
            if calls is not None:
                self.assertEqual(told[1], calls)
                self.assertEqual(plan(group, by="rounds"), ("plan", best_plan(group, "rounds")))
            self.assertEqual(how_many(group), len(plans_of(group)))
        self.assertGreater(min(seen.values()), 100)

    def test_a_plan_leads_to_all_holding_all(self):
        for group in self.groups():
            word, levels = plan(group)
            if word == "plan":
                for matching in levels:
                    self.assertTrue(matching)
                    self.assertIn(matching, matchings(group))
                    group = behind(group, matching)
                self.assertTrue(group.shared())

    def test_no_plan_where_a_sign_is_against(self):
        for group in self.groups():
            if signs_against(group):
                self.assertEqual((plan(group)[0], how_many(group)), ("none", 0))

    def test_each_row_by_which_all_come_to_hold_all_is_a_plan(self):
        for seed, group in enumerate([page_each(4), of_many_calls(), *self.groups()]):
            calls = row_of_calls(group, seed)
            if behind(group, calls).shared():
                levels = tuple(pairs for _, pairs in heights(group, calls))
                self.assertIn(levels, plans_of(group))
                self.assertLessEqual(calls_in(plan(group)[1]), len(calls))


class TestNothingHangsOnIt(unittest.TestCase):
    def test_what_is_handed_in_stays(self):
        for group, alike in ((page_each(6), page_each(6)), (page_each(3), page_each(3))):
            plan(group)
            plan(group, by="rounds")
            how_many(group)
            self.assertEqual(told_of(group), told_of(alike))

    def test_leaves_and_bars_of_another_group(self):
        held = {"a": ["x"], "b": ["y"], "c": ["x"], "d": ["y"]}
        for _ in range(2):
            self.assertEqual(how_many(Group(held)), 2)
            self.assertEqual(plan(Group(held))[1], ((("a", "b"), ("c", "d")),))
            barred = Group(held, barred=[("a", "b")])
            self.assertEqual(how_many(barred), 1)
            self.assertEqual(plan(barred)[1], ((("a", "d"), ("b", "c")),))
            self.assertEqual(how_many(Group(held, leaves={"x": 2})), 0)
            self.assertEqual(plan(Group(held, leaves={"y": 2}))[0], "none")


class TestTime(unittest.TestCase):
    def test_a_small_part_of_a_second(self):
        twelve = "ghijklmnopqr"
        rows = list(zip(twelve[::2], twelve[1::2]))
        groups = [page_each(6), Group(dict(zip("abcdef", rows))),
                  Group(dict(zip("abcdef", rows)), leaves=dict.fromkeys(twelve, 9)),
                  Group(dict(zip("abcdef", combinations(twelve, 11)))), of_many_calls()]
        for group in groups:
            begun = time.monotonic()
            plan(group)
            plan(group, by=ROUNDS)
            how_many(group)
            least_ones(group)
            # It takes a small part of that here.
            self.assertLess(time.monotonic() - begun, 0.5)


if __name__ == "__main__":
    unittest.main()
