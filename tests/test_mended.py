"""[9.2], [0.2] (f): mended, the fewest pages to be written so that there is a plan."""

import time
import unittest

from evenhands.calls import signs_against
from evenhands.errors import NoNumber
from evenhands.groups import Group
from evenhands.plans import how_many, plan
from evenhands.writing import fresh, mended, written
from tests.helper import anything, refused, some_groups, told_of
from tests.reference import many_groups, page_each, rows_of, with_written, writing_of
from tests.test_plans import shared_groups


def thirteenth():
    """Two people who need one page more, and twelve pages already."""
    return Group({"ann": list("abcdef"), "bob": list("ghijkl")}, leaves={"a": 2})


class TestMended(unittest.TestCase):
    def told(self, group, counts, most=2):
        """Check all that is told where people write so many pages."""
        found = mended(group, most=most)
        self.assertIs(type(found), tuple)
        self.assertEqual(found[0], counts)
        self.assertEqual(list(found[0]), group.people())
        later = with_written(group, counts.values())
        self.assertEqual(found[1], later)
        self.assertEqual(("plan", found[2]), plan(later))
        self.assertEqual(len(found), 3)

    def test_where_there_is_a_plan_already(self):
        for group in [page_each(2), page_each(4), page_each(6), *shared_groups()]:
            for most in range(5):
                self.told(group, {person: 0 for person in group.people()}, most)
            self.assertEqual(mended(group)[1], group)

    def test_one_page(self):
        group = Group({"b": [], "a": ["x"]})
        self.told(group, {"a": 0, "b": 1})
        self.told(group, {"a": 0, "b": 1}, 1)
        self.assertIsNone(mended(group, most=0))
        self.assertEqual(mended(group), (
            {"a": 0, "b": 1}, Group({"a": ["x"], "b": ["a"]}), ((("a", "b"),),)))

    def test_two_pages(self):
        group = Group({"a": ["x", "y"], "b": []})
        self.told(group, {"a": 0, "b": 2})
        self.assertEqual(mended(group)[1], Group({"a": ["x", "y"], "b": ["a", "b"]}))
        self.assertIsNone(mended(group, most=1))
        group = Group({"a": ["x"], "b": ["x"]}, leaves={"x": 3})
        self.told(group, {"a": 0, "b": 0})

    def test_more_pages_than_are_allowed(self):
        group = Group({"a": ["x", "y", "z"], "b": []})
        self.assertIsNone(mended(group))
        self.told(group, {"a": 0, "b": 3}, 3)
        self.told(group, {"a": 0, "b": 3}, 4)
        group = Group({"a": ["x"], "b": []}, leaves={"x": 4})
        self.assertIsNone(mended(group, most=3))
        self.told(group, {"a": 0, "b": 4}, 4)
        self.assertIsNone(mended(Group({"a": ["x"], "b": []}, leaves={"x": 5}), most=4))

    def test_what_cannot_be_mended(self):
        for group in (page_each(3), page_each(5), Group({"a": ["x"], "b": ["y"], "c": []}),
                      Group({"a": ["x"], "b": ["y"]}, barred=[("a", "b")])):
            self.assertIsNone(mended(group, most=4))

    def test_a_thirteenth_page(self):
        group = thirteenth()
        self.assertIsNone(mended(group, most=4))
        less = Group({"ann": list("abcdef"), "bob": list("ghijk")}, leaves={"a": 2})
        self.assertIsNone(mended(less, most=4))
        less = Group({"ann": list("abcdef"), "bob": list("ghijk")})
        self.told(less, {"ann": 0, "bob": 1}, 4)
        self.assertEqual(len(mended(less)[1].pages()), 12)

    def test_twelve_pages_and_a_plan(self):
        group = Group({"ann": list("abcdef"), "bob": list("ghijkl")})
        self.told(group, {"ann": 0, "bob": 0}, 4)

    def test_the_least_row_of_the_fewest(self):
        group = Group({"a": ["u"], "b": ["u", "v"], "c": ["u", "x"], "d": ["u", "w"]},
                      leaves={"u": 2, "x": 2})
        counts = writing_of(group, 4)
        several = [row for row in rows_of(4, sum(counts.values()))
                   if how_many(with_written(group, row)) > 0]
        self.assertGreater(len(several), 1)
        self.assertEqual(tuple(counts.values()), min(several))
        self.told(group, counts, 4)

    def test_new_pages_person_by_person(self):
        group = Group({"a": [], "b": [], "c": ["c"], "d": ["a", "x"]})
        counts, later, levels = mended(group, most=4)
        now = group
        for person, many in counts.items():
            for _ in range(many):
                now = written(now, person, fresh(now))
        self.assertGreater(sum(counts.values()), 2)
        self.assertEqual(later, now)
        self.assertEqual(plan(now), ("plan", levels))

    def test_beside_all_writings(self):
        groups = [group for group in many_groups(120, 81) if len(group) < 5]
        for group in groups:
            expected = writing_of(group, 4)
            if expected is None:
                self.assertIsNone(mended(group, most=4))
            else:
                self.told(group, expected, 4)
                few = sum(expected.values())
                if few:
                    self.assertIsNone(mended(group, most=few - 1))
                    self.assertEqual(mended(group, most=few), mended(group, most=4))

    def test_beside_all_writings_of_six(self):
        for group in many_groups(200, 82):
            if len(group) == 6 and len(group.pages()) < 5:
                expected = writing_of(group, 1)
                found = mended(group, most=1)
                self.assertEqual(None if found is None else found[0], expected)

    def test_two_pages_are_allowed_where_nothing_is_said(self):
        for group in many_groups(150, 83):
            self.assertEqual(mended(group), mended(group, most=2))

    def test_where_a_sign_stays(self):
        for group in list(some_groups())[::20]:
            found = mended(group, most=1)
            if found is not None:
                self.assertEqual(signs_against(found[1]), [])

    def test_by_name(self):
        self.assertEqual(mended(group=page_each(2), most=1), mended(page_each(2)))
        with self.assertRaises(TypeError):
            mended(page_each(2), 1)

    def test_it_is_fast(self):
        group = Group({"a": ["g", "j", "m"], "b": ["g", "h", "k"], "c": ["g", "m"],
                       "d": ["l", "m", "o"], "e": ["g", "j", "n"], "f": ["j", "o"]},
                      leaves={"h": 2, "j": 2, "l": 3, "m": 3, "o": 2})
        begun = time.process_time()
        self.assertIsNone(mended(group, most=4))
        self.assertLess(time.process_time() - begun, 4)


class TestRefused(unittest.TestCase):
    def test_no_number(self):
        for thing in [-1, -2, 5, 6, 10 ** 20, *anything(), "2", "", [2], (2,)]:
            if type(thing) is not int or not 0 <= thing <= 4:
                refused(self, NoNumber, {}, mended, page_each(2), most=thing)
                refused(self, NoNumber, {}, mended, page_each(3), most=thing)


class TestStays(unittest.TestCase):
    def test_what_is_handed_in_and_told(self):
        group = Group({"a": ["x"], "b": []}, barred=[])
        before = told_of(group)
        first = mended(group)
        first[0].clear()
        self.assertEqual(mended(group)[0], {"a": 0, "b": 1})
        self.assertEqual(told_of(group), before)

    def test_nothing_is_kept_for_other_leaves_or_bars(self):
        held = {"a": ["x"], "b": ["y"]}
        for _ in range(2):
            self.assertEqual(mended(Group(held))[0], {"a": 0, "b": 0})
            self.assertEqual(mended(Group(held, leaves={"x": 2}))[0], {"a": 0, "b": 1})
            self.assertIsNone(mended(Group(held, barred=[("a", "b")])))


if __name__ == "__main__":
    unittest.main()
