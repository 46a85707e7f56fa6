"""[3.1], [0.2] (a): weights_of, rising, heights, are_one."""

import unittest

from evenhands.calls import behind, called
from evenhands.errors import NoCall
from evenhands.groups import Group
from evenhands.rising import are_one, heights, rising, weights_of
from tests.helper import anything, refused, told_of
from tests.reference import many_groups, page_each, row_of_calls


def a_group():
    """a, b, c, d have a leaf each, e and f two, the one in a page and the other in two."""
    return Group({"a": ["p"], "b": ["q"], "c": ["r"], "d": ["s"], "e": ["t"], "f": ["u", "v"]},
                 leaves={"t": 2}, barred=[("b", "c")])


CALLS = [("f", "e"), ("d", "c"), ("a", "b"), ("c", "a"), ("b", "d"), ("c", "e")]


class TestTold(unittest.TestCase):
    def test_weights_of(self):
        self.assertEqual(weights_of(a_group(), CALLS), [2, 1, 1, 2, 2, 4])
        self.assertEqual(weights_of(a_group(), CALLS[:1]), [2])
        self.assertEqual(weights_of(page_each(2), [("b", "a")]), [1])

    def test_weights_count_leaves(self):
        group = Group({"a": ["x", "y"], "b": ["x", "z"]}, leaves={"x": 9, "y": 3, "z": 3})
        self.assertEqual(weights_of(group, [("a", "b")]), [12])

    def test_rising(self):
        self.assertEqual(rising(a_group(), CALLS), [
            ("a", "b"), ("c", "d"), ("a", "c"), ("b", "d"), ("e", "f"), ("c", "e")])
        self.assertEqual(rising(a_group(), CALLS[:1]), [("e", "f")])

    def test_heights(self):
        self.assertEqual(heights(a_group(), CALLS), [
            (1, (("a", "b"), ("c", "d"))), (2, (("a", "c"), ("b", "d"), ("e", "f"))),
            (4, (("c", "e"),))])
        self.assertEqual(heights(a_group(), CALLS[:1]), [(2, (("e", "f"),))])

    def test_heights_of_one_weight(self):
        calls = [("f", "c"), ("e", "a"), ("b", "d")]
        self.assertEqual(heights(page_each(6), calls),
                         [(1, (("a", "e"), ("b", "d"), ("c", "f")))])

    def test_no_calls(self):
        for group in (a_group(), page_each(1), Group({"a": []})):
            for empty in ([], ()):
                self.assertEqual(weights_of(group, empty), [])
                self.assertEqual(rising(group, empty), [])
                self.assertEqual(heights(group, empty), [])
                self.assertIs(are_one(group, empty, empty), True)

    def test_kinds(self):
        self.assertEqual([type(pair) for pair in rising(a_group(), CALLS)], [tuple] * 6)
        for row in heights(a_group(), CALLS):
            self.assertEqual((type(row), type(row[1])), (tuple, tuple))

    def test_a_tuple_of_calls(self):
        self.assertEqual(weights_of(a_group(), tuple(CALLS)), weights_of(a_group(), CALLS))
        self.assertEqual(rising(a_group(), tuple(CALLS)), rising(a_group(), CALLS))
        self.assertEqual(heights(a_group(), tuple(CALLS)), heights(a_group(), CALLS))
        self.assertIs(are_one(a_group(), tuple(CALLS), CALLS), True)

    def test_by_name(self):
        self.assertEqual(weights_of(calls=CALLS[:2], group=a_group()), [2, 1])
        self.assertEqual(rising(calls=CALLS[:1], group=a_group()), [("e", "f")])
        self.assertEqual(heights(calls=CALLS[:1], group=a_group()), [(2, (("e", "f"),))])
        self.assertIs(are_one(others=[], calls=CALLS, group=a_group()), False)


class TestOfManyRows(unittest.TestCase):
    def rows(self):
        for seed, group in enumerate(many_groups(150, 31)):
            calls = row_of_calls(group, seed)
            for many in range(len(calls) + 1):
                yield group, calls[:many]

    def test_the_same_by_rising_weights(self):
        for group, calls in self.rows():
            weights = weights_of(group, calls)
            now = group
            for weight, (one, other) in zip(weights, calls, strict=True):
                self.assertEqual((now.weight(one), now.weight(other)), (weight, weight))
                now = called(now, one, other)
            pairs = [tuple(sorted(call)) for call in calls]
            row = rising(group, calls)
            self.assertEqual(row, [pair for _, pair in sorted(zip(weights, pairs))])
            # Each call is even there, else this would be refused, and at the weight it had.
            self.assertEqual(behind(group, row), now)
            self.assertEqual(weights_of(group, row), sorted(weights))
            self.assertEqual(rising(group, row), row)

    def test_heights_are_the_rising_row_parted(self):
        for group, calls in self.rows():
            levels = heights(group, calls)
            self.assertEqual([pair for _, pairs in levels for pair in pairs],
                             rising(group, calls))
            self.assertEqual([weight for weight, pairs in levels for _ in pairs],
                             sorted(weights_of(group, calls)))
            weights = [weight for weight, _ in levels]
            self.assertEqual(weights, sorted(set(weights)))


class TestAreOne(unittest.TestCase):
    def test_neighbours_exchanged(self):
        for at in range(len(CALLS) - 1):
            if not set(CALLS[at]) & set(CALLS[at + 1]):
                others = [*CALLS[:at], CALLS[at + 1], CALLS[at], *CALLS[at + 2:]]
                self.assertIs(are_one(a_group(), CALLS, others), True)
                self.assertIs(are_one(a_group(), others, CALLS), True)

    def test_pairs_turned_about(self):
        others = [(other, one) for one, other in CALLS]
        self.assertIs(are_one(a_group(), CALLS, others), True)
        self.assertIs(are_one(a_group(), CALLS, rising(a_group(), CALLS)), True)

    def test_to_one_group_otherwise(self):
        group = Group({"a": ["x"], "b": ["y"], "c": ["x"], "d": ["y"]})
        calls = [("a", "b"), ("c", "d")]
        others = [("a", "d"), ("b", "c")]
        self.assertEqual(behind(group, calls), behind(group, others))
        self.assertIs(are_one(group, calls, others), False)
        self.assertIs(are_one(group, calls, calls[::-1]), True)

    def test_the_same_pairs_at_other_weights(self):
        calls = [("a", "b"), ("c", "d"), ("a", "c"), ("b", "d")]
        others = [("a", "c"), ("b", "d"), ("a", "b"), ("c", "d")]
        self.assertEqual(behind(page_each(4), calls), behind(page_each(4), others))
        self.assertIs(are_one(page_each(4), calls, others), False)

    def test_a_shorter_row(self):
        for many in range(len(CALLS)):
            self.assertIs(are_one(a_group(), CALLS, CALLS[:many]), False)
            self.assertIs(are_one(a_group(), CALLS[:many], CALLS), False)

    def test_the_first_is_refused_ahead_of_the_other(self):
        late = [("a", "b"), ("a", "b")]
        refused(self, NoCall, {"at": 1}, are_one, a_group(), late, [("a", "a")])
        refused(self, NoCall, {"at": 1}, are_one, a_group(), late, None)
        refused(self, NoCall, {"at": 0}, are_one, a_group(), None, late)
        refused(self, NoCall, {"at": 0}, are_one, a_group(), [None], late)
        refused(self, NoCall, {"at": 1}, are_one, a_group(), CALLS, late)
        refused(self, NoCall, {"at": 0}, are_one, a_group(), CALLS, None)


class TestRefused(unittest.TestCase):
    def all_of(self, at, calls):
        for deed in (weights_of, rising, heights):
            refused(self, NoCall, {"at": at}, deed, a_group(), calls)
        refused(self, NoCall, {"at": at}, are_one, a_group(), calls, CALLS)
        refused(self, NoCall, {"at": at}, are_one, a_group(), CALLS, calls)

    def test_no_list(self):
        for thing in anything():
            if not isinstance(thing, (list, tuple)):
                self.all_of(0, thing)

    def test_no_call(self):
        for thing in anything():
            for many in (0, 1, 4, len(CALLS)):
                self.all_of(many, [*CALLS[:many], thing])
                self.all_of(many, (*CALLS[:many], thing, *CALLS[many:]))

    def test_one_that_would_be_refused(self):
        self.all_of(0, [("b", "c")])
        self.all_of(0, [("a", "e")])
        self.all_of(0, [("a", "a"), ("a", "b")])
        self.all_of(1, [("a", "b"), ("b", "a")])
        self.all_of(2, [("a", "b"), ("f", "e"), ("a", "f"), None])
        self.all_of(1, [("a", "b"), ["c", "d"]])

    def test_a_row_is_taken_as_it_stands(self):
        # The other way about the same calls are a row.
        self.all_of(0, [("a", "e"), ("a", "b")])
        self.assertEqual(weights_of(a_group(), [("a", "b"), ("a", "e")]), [1, 2])


class TestNothingHangsOnIt(unittest.TestCase):
    def test_what_is_handed_in_stays(self):
        group = a_group()
        calls = list(CALLS)
        for deed in (weights_of, rising, heights):
            row = deed(group, calls)
            row.append(("x", "y"))
            row[0] = None
            self.assertEqual(deed(group, calls), deed(a_group(), CALLS))
        are_one(group, calls, calls)
        self.assertEqual(calls, CALLS)
        self.assertEqual(told_of(group), told_of(a_group()))

    def test_the_row_told_is_another_one(self):
        calls = [("a", "b")]
        row = rising(a_group(), calls)
        self.assertIsNot(row, calls)
        calls.append(("c", "d"))
        self.assertEqual(row, [("a", "b")])


if __name__ == "__main__":
    unittest.main()
