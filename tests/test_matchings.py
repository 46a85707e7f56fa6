"""[4.1], [4.2]: least_ones, matchings, parts, barrier."""

import unittest
from itertools import combinations

from evenhands.calls import may
from evenhands.errors import NoPerson
from evenhands.groups import Group
from evenhands.matchings import barrier, least_ones, matchings, parts
from tests.helper import anything, refused, some_groups, told_of
from tests.reference import (
    barrier_of, joined_by, least_of, many_groups, matchings_of, page_each, parts_of)


def a_group():
    """b, c, e, f are the least ones, b and f alike, c and e barred; a holds all, d weighs more."""
    return Group({"a": ["u", "v", "w", "x"], "b": ["u"], "c": ["v"], "d": ["u", "v"],
                  "e": ["w"], "f": ["u"]}, leaves={"x": 2}, barred=[("e", "c"), ("a", "b")])


def shared_groups():
    return [Group({"a": []}), Group({"a": ["x"]}), Group({"a": [], "b": []}),
            Group({"a": ["x", "y"], "b": ["y", "x"], "c": ["x", "y"]}, barred=[("a", "b")])]


def two_stars():
    """b is joined to a, c and d, d to e and f as well: no matching, and two sets show it."""
    return joined_by("abcdef", [("a", "b"), ("b", "c"), ("b", "d"), ("d", "e"), ("d", "f")])


class TestLeastOnes(unittest.TestCase):
    def test_those_of_the_least_weight_who_lack_pages(self):
        self.assertEqual(least_ones(a_group()), ["b", "c", "e", "f"])
        self.assertEqual(least_ones(page_each(6)), list("abcdef"))
        self.assertEqual(least_ones(Group({"bob": ["x"], "ann": [], "cid": ["y"]})), ["ann"])

    def test_those_who_hold_all_are_none(self):
        self.assertEqual(least_ones(Group({"a": ["x", "y"], "b": ["x"], "c": ["x", "y"]})), ["b"])
        for group in shared_groups():
            self.assertEqual(least_ones(group), [])

    def test_leaves_are_weighed_not_pages(self):
        group = Group({"a": ["x", "y"], "b": ["z"], "c": ["w"]}, leaves={"z": 3, "w": 2})
        self.assertEqual(least_ones(group), ["a", "c"])

    def test_by_name(self):
        self.assertEqual(least_ones(group=page_each(2)), ["a", "b"])


class TestMatchings(unittest.TestCase):
    def test_alike_ones_and_barred_ones(self):
        self.assertEqual(matchings(a_group()), [
            (("b", "c"), ("e", "f")), (("b", "e"), ("c", "f"))])

    def test_of_nobody(self):
        for group in shared_groups():
            self.assertEqual(matchings(group), [()])

    def test_an_odd_number(self):
        for many in (1, 3, 5):
            lone = {"z": ["x", "y"]}
            group = Group({**{letter: [letter] for letter in "abcde"[:many]}, **lone})
            self.assertEqual(matchings(group), [])

    def test_not_to_be_matched(self):
        self.assertEqual(matchings(Group({"a": ["x"], "b": ["x"], "c": ["x", "y"]})), [])
        self.assertEqual(matchings(Group({"a": ["x"], "b": ["y"]}, barred=[("b", "a")])), [])
        self.assertEqual(matchings(two_stars()), [])
        self.assertEqual(matchings(Group({"a": ["x"], "b": ["x"], "c": ["x"], "d": ["y"]})), [])

    def test_two_four_and_six_who_can_all_call(self):
        self.assertEqual(matchings(page_each(2)), [(("a", "b"),)])
        self.assertEqual(matchings(page_each(4)), [
            (("a", "b"), ("c", "d")), (("a", "c"), ("b", "d")), (("a", "d"), ("b", "c"))])
        found = matchings(page_each(6))
        self.assertEqual(len(found), 15)
        self.assertEqual(found, sorted(set(found)))
        self.assertEqual(found[0], (("a", "b"), ("c", "d"), ("e", "f")))
        self.assertEqual(found[-1], (("a", "f"), ("b", "e"), ("c", "d")))

    def test_people_rise_by_names(self):
        group = Group({"b": ["x"], "aa": ["y"], "ab": ["x"], "a": ["y"]})
        self.assertEqual(matchings(group), [(("a", "ab"), ("aa", "b")), (("a", "b"), ("aa", "ab"))])

    def test_each_pair_may_call(self):
        for group in many_groups(200, 41):
            least = least_ones(group)
            for matching in matchings(group):
                self.assertEqual(sorted(one for pair in matching for one in pair), least)
                self.assertTrue(all(may(group, *pair) for pair in matching))

    def test_kinds(self):
        found = matchings(page_each(4))
        self.assertEqual({type(matching) for matching in found}, {tuple})
        self.assertEqual({type(pair) for matching in found for pair in matching}, {tuple})

    def test_by_name(self):
        self.assertEqual(matchings(group=page_each(2)), [(("a", "b"),)])


class TestParts(unittest.TestCase):
    def test_none_taken_out(self):
        self.assertEqual(parts(page_each(6), []), [tuple("abcdef")])
        self.assertEqual(parts(a_group(), []), [("b", "c", "e", "f")])
        self.assertEqual(parts(Group({"a": ["x"], "b": ["x"], "c": ["x", "y"]}), ()),
                         [("a",), ("b",)])

    def test_some_taken_out(self):
        self.assertEqual(parts(a_group(), ["b", "f"]), [("c",), ("e",)])
        self.assertEqual(parts(a_group(), ["f"]), [("b", "c", "e")])
        self.assertEqual(parts(a_group(), ("e", "c")), [("b",), ("f",)])
        self.assertEqual(parts(two_stars(), ["b"]), [("a",), ("c",), ("d", "e", "f")])
        self.assertEqual(parts(two_stars(), ["d", "b"]), [("a",), ("c",), ("e",), ("f",)])

    def test_some_twice(self):
        self.assertEqual(parts(two_stars(), ["b", "b", "d", "b"]), parts(two_stars(), ["b", "d"]))

    def test_all_taken_out(self):
        self.assertEqual(parts(a_group(), ["f", "b", "c", "e", "c"]), [])
        for group in shared_groups():
            self.assertEqual(parts(group, []), [])

    def test_led_together_by_others_only(self):
        row = joined_by("abcdef", [("a", "f"), ("c", "f"), ("c", "e"), ("b", "e"), ("b", "d")])
        self.assertEqual(parts(row, []), [tuple("abcdef")])
        self.assertEqual(parts(row, ["c"]), [("a", "f"), ("b", "d", "e")])
        self.assertEqual(parts(row, ["e"]), [("a", "c", "f"), ("b", "d")])

    def test_not_by_way_of_heavier_ones(self):
        group = Group({"a": ["x"], "b": ["x"], "c": ["y", "z"], "d": ["x", "y", "z"]})
        self.assertEqual(parts(group, []), [("a",), ("b",)])

    def test_the_first_that_is_no_least_one(self):
        for thing in [*anything(), "a", "d", "B"]:
            refused(self, NoPerson, {"name": thing}, parts, a_group(), [thing])
            refused(self, NoPerson, {"name": thing}, parts, a_group(), ("b", thing, "zed", "a"))
        for group in shared_groups():
            refused(self, NoPerson, {"name": "a"}, parts, group, ["a"])

    def test_the_thing_itself(self):
        thing = ["b"]
        with self.assertRaises(NoPerson) as caught:
            parts(a_group(), ["b", thing, ["c"]])
        self.assertIs(caught.exception.name, thing)

    def test_no_list(self):
        for thing in [*anything(), "b", {"b": "c"}]:
            if not isinstance(thing, (list, tuple)):
                refused(self, NoPerson, {"name": None}, parts, a_group(), thing)

    def test_by_name(self):
        self.assertEqual(parts(some=["a"], group=page_each(2)), [("b",)])


class TestBarrier(unittest.TestCase):
    def test_none_where_there_is_a_matching(self):
        for group in (a_group(), page_each(2), page_each(4), page_each(6)):
            self.assertIsNone(barrier(group))

    def test_none_where_there_are_no_least_ones(self):
        for group in shared_groups():
            self.assertIsNone(barrier(group))

    def test_nobody_where_least_ones_are_odd_in_number(self):
        for group in (page_each(3), page_each(5), Group({"a": ["x"], "b": []})):
            self.assertEqual(barrier(group), ())

    def test_nobody_where_parts_are_odd_in_number(self):
        self.assertEqual(barrier(Group({"a": ["x"], "b": ["x"], "c": ["x", "y"]})), ())
        two_threes = joined_by("abcdef", [
            ("a", "c"), ("c", "e"), ("a", "e"), ("b", "d"), ("d", "f"), ("b", "f")])
        self.assertEqual(barrier(two_threes), ())

    def test_one_in_the_middle(self):
        self.assertEqual(barrier(Group({"a": ["x"], "b": ["x"], "c": ["y"], "d": ["x"]})), ("c",))
        self.assertEqual(barrier(joined_by("abcdef", [(one, "f") for one in "abcde"])), ("f",))

    def test_two_in_the_middle(self):
        held = {"a": ["x"], "b": ["x"], "c": ["y"], "d": ["x"], "e": ["z"], "f": ["x"]}
        self.assertEqual(barrier(Group(held)), ("c", "e"))
        self.assertEqual(barrier(Group(held, barred=[("c", "e")])), ("c", "e"))

    def test_the_least_of_the_smallest(self):
        self.assertEqual(barrier(two_stars()), ("b",))
        self.assertEqual(len([some for some in combinations("abcdef", 1)
                              if len(parts(two_stars(), some)) == 3]), 2)

    def test_the_smallest_ahead_of_a_lesser_one(self):
        # Without a and f there are four parts, too, of one person each.
        group = joined_by("abcdef", [("a", "b"), ("b", "f"), ("c", "f"), ("d", "f"), ("e", "f")])
        self.assertEqual(barrier(group), ("f",))

    def test_kinds(self):
        self.assertIs(type(barrier(page_each(3))), tuple)
        self.assertIs(type(barrier(two_stars())), tuple)

    def test_by_name(self):
        self.assertEqual(barrier(group=two_stars()), ("b",))


class TestOfManyGroups(unittest.TestCase):
    def groups(self):
        yield from some_groups()
        yield from many_groups(400, 42)
        for code in range(2 ** 6):
            pairs = [pair for at, pair in enumerate(combinations("abcd", 2)) if code >> at & 1]
            yield joined_by("abcd", pairs)

    def test_as_the_document_says(self):
        for group in self.groups():
            self.assertEqual(least_ones(group), least_of(group))
            self.assertEqual(matchings(group), matchings_of(group))
            self.assertEqual(barrier(group), barrier_of(group))

    def test_parts_as_the_document_says(self):
        for group in many_groups(100, 43):
            least = least_ones(group)
            for many in range(len(least) + 1):
                for some in combinations(least, many):
                    self.assertEqual(parts(group, some), parts_of(group, some))

    def test_of_all_six_who_are_barred_in_many_ways(self):
        pairs = list(combinations("abcdef", 2))
        for code in range(0, 2 ** 15, 61):
            group = joined_by("abcdef", [pair for at, pair in enumerate(pairs) if code >> at & 1])
            self.assertEqual(matchings(group), matchings_of(group))
            self.assertEqual(barrier(group), barrier_of(group))


class TestNothingHangsOnIt(unittest.TestCase):
    def test_what_is_handed_in_stays(self):
        group = a_group()
        some = ["b", "f", "b"]
        for told in (least_ones(group), matchings(group), parts(group, some)):
            told.clear()
        self.assertEqual(some, ["b", "f", "b"])
        self.assertEqual(told_of(group), told_of(a_group()))
        self.assertEqual(least_ones(group), ["b", "c", "e", "f"])
        self.assertEqual(len(matchings(group)), 2)
        self.assertEqual(parts(group, some), [("c",), ("e",)])

    def test_leaves_and_bars_of_another_group(self):
        held = {"a": ["x"], "b": ["y"], "c": ["x"], "d": ["y"]}
        self.assertEqual(len(matchings(Group(held))), 2)
        self.assertEqual(len(matchings(Group(held, barred=[("a", "b")]))), 1)
        self.assertEqual(least_ones(Group(held, leaves={"x": 2})), ["b", "d"])
        self.assertEqual(len(matchings(Group(held))), 2)


if __name__ == "__main__":
    unittest.main()
