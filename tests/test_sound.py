"""[10.1], [0.2] (g): sound, and what a keeper that watches lets by."""

import time
import unittest
from itertools import combinations
from random import Random

from evenhands.calls import called, may
from evenhands.errors import Spoils
from evenhands.groups import Group
from evenhands.keeper import Keeper, sound
from evenhands.matchings import least_ones, matchings
from evenhands.plans import plan
from tests.helper import told_of
from tests.reference import can_share, lots_of, many_groups, page_each
from tests.test_plans import of_many_calls, of_many_rounds, shared_groups, without_plan


def spoilable():
    """A group with a plan, and calls that take it: a and c, two matchings ahead of the end."""
    return Group(dict(zip("abcdef", [["x"], ["u", "x"], ["u"], ["w"], ["u", "w"], ["v"]])))


def shares(group):
    people = group.people()
    barred = [tuple(people.index(person) for person in pair) for pair in group.barred()]
    return can_share(*lots_of(group), barred)


def even_pairs(group):
    return [pair for pair in combinations(group.people(), 2) if may(group, *pair)]


def stuck_by_hand(group):
    while matchings(group):
        for pair in matchings(group)[0]:
            group = called(group, *pair)
    return tuple(least_ones(group))


class TestSound(unittest.TestCase):
    def test_each_pair(self):
        self.assertEqual(sound(page_each(2)), [("a", "b")])
        self.assertEqual(sound(page_each(4)), list(combinations("abcd", 2)))
        self.assertEqual(sound(page_each(6)), list(combinations("abcdef", 2)))

    def test_some_pairs(self):
        group = spoilable()
        self.assertEqual(plan(group)[0], "plan")
        self.assertEqual(sound(group), [pair for pair in even_pairs(group)
                                        if shares(called(group, *pair))])
        self.assertEqual(sound(group), [("a", "d"), ("c", "f")])
        self.assertIn(("a", "c"), even_pairs(group))
        group = Group({"a": ["w"], "b": ["u"], "c": ["v"], "d": ["w"]})
        self.assertEqual(sound(group), [("a", "b"), ("a", "c"), ("b", "d"), ("c", "d")])
        self.assertEqual(sorted([*sound(group), ("b", "c")]), even_pairs(group))

    def test_none(self):
        for group in [*shared_groups(), *without_plan()]:
            self.assertEqual(sound(group), [])

    def test_barred(self):
        group = Group({person: [person] for person in "abcd"}, barred=[("a", "b"), ("d", "b")])
        self.assertEqual(sound(group), [])
        group = Group({person: [person] for person in "abcd"}, barred=[("a", "b")])
        self.assertEqual(sound(group), [("a", "c"), ("a", "d"), ("b", "c"), ("b", "d")])

    def test_beside_all_even_calls(self):
        for group in [of_many_calls(), of_many_rounds(), *many_groups(300, 101)]:
            expected = [pair for pair in even_pairs(group) if shares(called(group, *pair))]
            self.assertEqual(sound(group), expected)

    def test_some_where_there_is_a_plan(self):
        for group in many_groups(200, 102):
            self.assertIs(sound(group) != [], shares(group) and not group.shared())

    def test_the_group_stays_and_lists_are_the_askers_own(self):
        group = page_each(4)
        before = told_of(group)
        sound(group).clear()
        self.assertEqual(len(sound(group=group)), 6)
        self.assertEqual(told_of(group), before)

    def test_it_is_fast(self):
        begun = time.process_time()
        sound(page_each(6))
        self.assertLess(time.process_time() - begun, 2)


class TestWatch(unittest.TestCase):
    def tried(self, keeper, pair):
        """Whether the keeper did the call; where not, that it stands as it stood."""
        group, log = keeper.group(), keeper.log()
        try:
            keeper.do(("call", *pair))
            return True
        except Spoils as refusal:
            self.assertEqual(refusal.stuck, stuck_by_hand(called(group, *pair)))
            self.assertEqual((keeper.group(), keeper.log()), (group, log))
            return False

    def test_whatever_calls_are_tried_they_end_with_all(self):
        chance = Random(103)
        spoiled = 0
        for group in [spoilable(), page_each(6), *many_groups(250, 104)]:
            if shares(group):
                keeper = Keeper(group)
                pairs = even_pairs(keeper.group())
                while pairs:
                    pair = chance.choice(pairs)
                    spoiled += not self.tried(keeper, pair[::chance.choice((1, -1))])
                    pairs = sound(keeper.group())
                    if pairs:
                        pairs = even_pairs(keeper.group())
                self.assertTrue(keeper.group().shared())
        self.assertGreater(spoiled, 0)

    def stuck(self, group, one, other):
        with self.assertRaises(Spoils) as caught:
            Keeper(group).do(("call", one, other))
        return caught.exception.stuck

    def test_who_is_stuck(self):
        group = Group({"a": ["w"], "b": ["u"], "c": ["v"], "d": ["w"]})
        self.assertEqual(self.stuck(group, "c", "b"), ("a", "d"))
        group = Group({"a": ["x", "z"], "b": ["v"], "c": ["x", "y"], "d": ["x"]})
        self.assertEqual(self.stuck(group, "a", "c"), ("b", "d"))
        self.assertEqual(self.stuck(spoilable(), "a", "c"), ("b", "e"))
        group = Group(dict(zip("abcdef", [["w", "x"], ["w"], ["u", "x"], ["v", "w"], ["w", "y"],
                                          ["u"]])))
        self.assertEqual(self.stuck(group, "d", "c"), tuple("abcdef"))

    def test_by_the_least_matching(self):
        """By other matchings others would be stuck."""
        group = Group({"a": ["x"], "b": ["v", "y", "z"], "c": ["v", "z"], "d": ["x", "y"],
                       "e": ["u"], "f": ["u", "y", "z"]})
        self.assertEqual(self.stuck(group, "b", "f"), ("d", "e"))
        group = Group({"a": ["w"], "b": ["v", "w"], "c": ["v"], "d": ["w", "x"], "e": ["u"],
                       "f": ["x"]})
        self.assertEqual(self.stuck(group, "a", "c"), ("a", "d"))

    def test_just_the_sound_ones_are_done(self):
        spoiled = 0
        for group in [spoilable(), *many_groups(250, 105)]:
            if shares(group):
                for pair in even_pairs(group):
                    done = self.tried(Keeper(group), pair)
                    self.assertIs(done, pair in sound(group))
                    spoiled += not done
        self.assertGreater(spoiled, 3)

    def test_without_a_plan_each_even_call_is_done(self):
        for group in [page_each(3), page_each(5), *many_groups(200, 106)]:
            if not shares(group):
                for pair in even_pairs(group):
                    keeper = Keeper(group)
                    self.assertTrue(self.tried(keeper, pair))
                    self.assertEqual(keeper.group(), called(group, *pair))

    def test_without_watching_each_even_call_is_done(self):
        for group in [spoilable(), *many_groups(200, 107)]:
            for pair in even_pairs(group):
                keeper = Keeper(group, watch=False)
                self.assertTrue(self.tried(keeper, pair))
                self.assertEqual(keeper.group(), called(group, *pair))
                for more in even_pairs(keeper.group()):
                    self.assertTrue(self.tried(keeper.twin(), more))


if __name__ == "__main__":
    unittest.main()
