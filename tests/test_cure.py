"""[9.3], [0.2] (f): cure, by_pairs, by_two: fours that writing can help."""

import unittest
from itertools import combinations, product
from random import Random

from evenhands.errors import NoWay
from evenhands.groups import Group
from evenhands.plans import plan
from evenhands.writing import by_pairs, by_two, cure, mended
from tests.helper import refused, told_of
from tests.reference import can_share, lots_of, many_groups, page_each, writing_of

ALL_PAIRS = list(combinations("abcd", 2))


def four(*lots, **leaves):
    return Group({person: list(lot) for person, lot in zip("abcd", lots)}, leaves=leaves)


def some_fours(many, seed):
    """So many fours, with pages that several hold, and of one leaf or more."""
    chance = Random(seed)
    for _ in range(many):
        pages = "uvwxyz"[:chance.randint(1, 6)]
        often = chance.choice((0.3, 0.4, 0.5, 0.6))
        held = {person: [page for page in pages if chance.random() < often] for person in "abcd"}
        there = sorted({page for some in held.values() for page in some})
        yield Group(held, leaves={page: chance.choice((1, 1, 1, 2, 3)) for page in there})


def helpless():
    """A four that nothing can help: no parting and no two."""
    for group in some_fours(3000, 5):
        if cure(group) is None:
            return group
    raise AssertionError("there are some")


def pairs_by_hand(group):
    found = []
    for pair, others in [("ab", "cd"), ("ac", "bd"), ("ad", "bc")]:
        both = [sum(group.leaves(page) for page in set(group.held(one)) & set(group.held(other)))
                for one, other in (pair, others)]
        if both[0] % 2 == both[1] % 2:
            found.append((tuple(pair), tuple(others)))
    return found


def two_by_hand(group):
    found = []
    for two in ALL_PAIRS:
        pages = set(group.held(two[0])) | set(group.held(two[1]))
        known = [sum(group.leaves(page) for page in pages & set(group.held(person)))
                 for person in "abcd" if person not in two]
        if known[0] == known[1]:
            found.append(two)
    return found


class TestCure(unittest.TestCase):
    def test_a_plan_already(self):
        for group in [page_each(4), four("x", "x", "x", "x"), four("xy", "x", "y", "xy"),
                      four("", "", "", "")]:
            self.assertEqual(plan(group)[0], "plan")
            self.assertEqual(cure(group), {"a": 0, "b": 0, "c": 0, "d": 0})

    def test_by_one(self):
        self.assertEqual(cure(four("x", "y", "z", "")), {"a": 0, "b": 0, "c": 0, "d": 1})
        self.assertEqual(cure(four("x", "", "z", "v")), {"a": 0, "b": 1, "c": 0, "d": 0})

    def test_by_several(self):
        self.assertEqual(cure(four("xy", "", "z", "v")), {"a": 0, "b": 1, "c": 0, "d": 1})
        self.assertEqual(cure(four("xy", "x", "y", "")), {"a": 0, "b": 1, "c": 1, "d": 2})
        self.assertEqual(cure(four("xyz", "x", "y", "z")), {"a": 0, "b": 2, "c": 4, "d": 4})

    def test_by_two_alone(self):
        group = four("x", "x", "x", "")
        self.assertEqual(by_pairs(group), [])
        self.assertEqual(by_two(group), [("a", "d"), ("b", "d"), ("c", "d")])
        self.assertEqual(cure(group), {"a": 0, "b": 1, "c": 1, "d": 1})

    def test_by_pairs_alone(self):
        group = four("", "uw", "v", "uvw")
        self.assertEqual(by_two(group), [])
        self.assertEqual(by_pairs(group), [(("a", "c"), ("b", "d")), (("a", "d"), ("b", "c"))])
        self.assertEqual(cure(group), {"a": 2, "b": 1, "c": 1, "d": 0})

    def test_the_least_row_of_the_fewest(self):
        self.assertEqual(cure(four("uvx", "uv", "uv", "u")), {"a": 0, "b": 0, "c": 1, "d": 1})
        self.assertEqual(cure(four("uv", "u", "wxz", "uw")), {"a": 0, "b": 2, "c": 0, "d": 0})
        self.assertEqual(cure(four("uw", "vw", "w", "w", u=2, w=2)),
                         {"a": 0, "b": 0, "c": 1, "d": 2})

    def test_nothing_helps(self):
        group = helpless()
        self.assertIsNone(cure(group))
        self.assertEqual((by_pairs(group), by_two(group)), ([], []))
        self.assertIsNone(writing_of(group, 6))
        self.assertIsNone(mended(group, most=4))

    def test_keys_rise(self):
        group = Group({"zoe": [], "ann": ["x"], "bob": ["y"], "mia": ["v"]})
        self.assertEqual(list(cure(group).items()), [("ann", 0), ("bob", 0), ("mia", 0), ("zoe", 1)])

    def test_more_than_twelve_pages_behind_it(self):
        group = Group({"a": list("efghijklmnop"), "b": [], "c": [], "d": []})
        counts = cure(group)
        self.assertGreater(sum(counts.values()), 12)
        lots, sizes = lots_of(group)
        for at, many in enumerate(counts.values()):
            for _ in range(many):
                lots[at] |= 1 << len(sizes)
                sizes.append(1)
        self.assertTrue(can_share(lots, sizes))

    def test_many_leaves(self):
        self.assertEqual(cure(four("x", "", "", "", x=9)), {"a": 1, "b": 5, "c": 5, "d": 10})

    def test_beside_all_writings(self):
        for group in some_fours(250, 91):
            expected = writing_of(group, 6)
            counts = cure(group)
            if expected is not None or counts is None or sum(counts.values()) <= 6:
                self.assertEqual(counts, expected)

    def test_a_cure_helps(self):
        for group in some_fours(600, 92):
            counts = cure(group)
            if counts is not None:
                lots, sizes = lots_of(group)
                for at, many in enumerate(counts.values()):
                    for _ in range(many):
                        lots[at] |= 1 << len(sizes)
                        sizes.append(1)
                self.assertTrue(can_share(lots, sizes))

    def test_beside_mended(self):
        for group in some_fours(150, 93):
            counts = cure(group)
            found = mended(group, most=4)
            if found is not None:
                self.assertEqual(counts, found[0])
            elif counts is not None and len(group.pages()) <= 8:
                self.assertGreater(sum(counts.values()), 4)

    def test_a_cure_just_where_one_of_both_is_told(self):
        found = set()
        for group in [helpless(), *some_fours(800, 94)]:
            told = (by_pairs(group) != [], by_two(group) != [])
            self.assertIs(cure(group) is not None, any(told))
            found.add(told)
        self.assertEqual(found, set(product((True, False), repeat=2)))


class TestPairsAndTwo(unittest.TestCase):
    def test_all_partings(self):
        self.assertEqual(by_pairs(page_each(4)), [
            (("a", "b"), ("c", "d")), (("a", "c"), ("b", "d")), (("a", "d"), ("b", "c"))])

    def test_the_least_person_ahead(self):
        group = Group({"zoe": ["x"], "bob": ["x"], "mia": ["y"], "ann": []})
        self.assertEqual(by_pairs(group), [
            (("ann", "bob"), ("mia", "zoe")), (("ann", "zoe"), ("bob", "mia"))])
        self.assertEqual(by_two(group), [("ann", "mia"), ("bob", "zoe")])

    def test_leaves_count(self):
        self.assertEqual(by_pairs(four("x", "x", "y", "z")),
                         [(("a", "c"), ("b", "d")), (("a", "d"), ("b", "c"))])
        self.assertEqual(len(by_pairs(four("x", "x", "y", "z", x=2))), 3)

    def test_two(self):
        self.assertEqual(by_two(page_each(4)), ALL_PAIRS)
        self.assertEqual(by_two(four("x", "x", "y", "z")), [("a", "b"), ("c", "d")])
        self.assertEqual(by_two(four("xy", "x", "y", "")), [("a", "d")])

    def test_none(self):
        group = helpless()
        self.assertEqual(by_pairs(group), [])
        self.assertEqual(by_two(group), [])

    def test_by_hand(self):
        for group in some_fours(600, 95):
            self.assertEqual(by_pairs(group), pairs_by_hand(group))
            self.assertEqual(by_two(group), two_by_hand(group))


class TestRefused(unittest.TestCase):
    def test_no_four(self):
        for many in (1, 2, 3, 5, 6):
            for deed in (cure, by_pairs, by_two):
                refused(self, NoWay, {}, deed, page_each(many))

    def test_barred(self):
        held = {person: [person] for person in "abcd"}
        for pair in ALL_PAIRS:
            for deed in (cure, by_pairs, by_two):
                refused(self, NoWay, {}, deed, Group(held, barred=[pair]))
        for group in many_groups(60, 96):
            if len(group) != 4 or group.barred():
                refused(self, NoWay, {}, cure, group)


class TestStays(unittest.TestCase):
    def test_what_is_handed_in_and_told(self):
        group = four("xy", "", "z", "v")
        before = told_of(group)
        for deed in (cure, by_pairs, by_two):
            first = deed(group)
            deed(group).clear()
            self.assertEqual(deed(group), first)
        self.assertEqual(told_of(group), before)

    def test_by_name(self):
        for deed in (cure, by_pairs, by_two):
            self.assertEqual(deed(group=page_each(4)), deed(page_each(4)))


if __name__ == "__main__":
    unittest.main()
