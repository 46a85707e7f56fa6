"""[6.1], [0.2] (b): is_plan, the judge of plans."""

import unittest
from copy import deepcopy
from itertools import combinations

from evenhands.calls import behind
from evenhands.groups import Group
from evenhands.judge import is_plan
from evenhands.matchings import matchings
from evenhands.plans import plan
from tests.helper import anything, told_of
from tests.reference import many_groups, page_each, plans_of
from tests.test_plans import SIX, of_many_calls, of_many_rounds, shared_groups, without_plan

FOUR = ((("a", "b"), ("c", "d")), (("a", "c"), ("b", "d")))


def uneven_matchings():
    """A group of two matchings, one behind the other, of people who weigh the same, and of more."""
    return Group({"a": ["x", "y", "z"], "b": ["x"], "c": ["y"], "d": ["x", "z"], "e": ["y", "z"]})


class TestPlans(unittest.TestCase):
    def test_every_plan_is_one(self):
        for group in [page_each(4), of_many_calls(), of_many_rounds(), *many_groups(300, 11)]:
            for levels in plans_of(group):
                self.assertIs(is_plan(group, levels), True)

    def test_what_plan_tells(self):
        for group in [page_each(2), page_each(6), *many_groups(300, 12)]:
            for by in ("calls", "rounds"):
                word, levels = plan(group, by=by)
                self.assertIs(is_plan(group, levels), word == "plan")

    def test_of_a_group_that_shares_all(self):
        for group in shared_groups():
            self.assertIs(is_plan(group, ()), True)
            for thing in [((),), (FOUR[0],), FOUR, *anything()]:
                if thing != ():
                    self.assertIs(is_plan(group, thing), False)

    def test_none_where_something_lacks(self):
        for group in [page_each(2), page_each(4), page_each(6), *without_plan()]:
            self.assertIs(is_plan(group, ()), False)

    def test_rows_of_matchings_that_lead_nowhere(self):
        for group in many_groups(300, 13):
            for first in matchings(group):
                for then in matchings(behind(group, first)):
                    levels = tuple(level for level in (first, then) if level)
                    self.assertIs(is_plan(group, levels), levels in plans_of(group))


class TestOtherwise(unittest.TestCase):
    def none(self, group, *things):
        for thing in things:
            before = deepcopy(thing)
            self.assertIs(is_plan(group, thing), False, thing)
            self.assertEqual(thing, before)

    def test_lists_for_tuples(self):
        first, then = FOUR
        self.assertIs(is_plan(page_each(4), FOUR), True)
        self.none(page_each(4), list(FOUR), [first, then], (list(first), then),
                  (first, list(then)), ([["a", "b"], ("c", "d")], then),
                  ((["a", "b"], ("c", "d")), then), (first, (("a", "c"), ["b", "d"])))

    def test_matchings_left_out_twice_or_more_behind(self):
        first, then = FOUR
        self.none(page_each(4), (first,), (then,), (first, first), (first, first, then),
                  (first, then, then), (first, then, first), (then, first, then))
        self.none(page_each(6), SIX[:1], SIX[:2], SIX[1:], SIX[::2], (*SIX, SIX[0]))

    def test_parted_matchings(self):
        first, then = FOUR
        self.none(page_each(4), (first[:1], first[1:], then), (first, then[:1], then[1:]),
                  (first[:1], then), (first, then[:1]), (first + then,), first + then, first)

    def test_matchings_of_nobody(self):
        first, then = FOUR
        self.none(page_each(4), ((), first, then), (first, (), then), (first, then, ()), ((),))
        self.none(Group({"a": ["x"]}), ((),))

    def test_pairs_turned_about_or_out_of_order(self):
        first, then = FOUR
        self.none(page_each(4), ((("b", "a"), ("c", "d")), then), ((("a", "b"), ("d", "c")), then),
                  (first[::-1], then), (first, then[::-1]), (first, (("a", "c"), ("d", "b"))),
                  (first[:1] + first, then))

    def test_pairs_that_were_together(self):
        self.none(page_each(4), (FOUR[0], FOUR[0]), (FOUR[0], (("a", "b"), ("c", "d"))))

    def test_people_who_are_not_the_least_ones(self):
        group = uneven_matchings()
        self.assertIs(is_plan(group, ((("b", "c"),), (("b", "d"), ("c", "e")))), True)
        self.none(group, ((("d", "e"),), (("b", "c"),)), ((("b", "c"), ("d", "e")),),
                  ((("b", "c"),), (("d", "e"),)), ((("b", "c"),), (("b", "e"), ("c", "d"))[:1]))

    def test_those_who_hold_all(self):
        group = uneven_matchings()
        self.none(group, ((("a", "b"),),), ((("b", "c"),), (("a", "b"), ("c", "e"))),
                  ((("b", "c"),), (("b", "d"), ("c", "e")), (("a", "b"),)))

    def test_barred_pairs(self):
        group = Group(dict(zip("abcd", [["a"], ["b"], ["c"], ["d"]])), barred=[("d", "c")])
        self.none(group, FOUR)
        self.assertIs(is_plan(group, FOUR[::-1]), False)
        other = ((("a", "c"), ("b", "d")), (("a", "b"), ("c", "d")))
        self.none(group, other)
        last = ((("a", "c"), ("b", "d")), (("a", "d"), ("b", "c")))
        self.assertIs(is_plan(group, last), True)

    def test_uneven_calls(self):
        group = Group({"a": ["x"], "b": ["y"]}, leaves={"x": 2})
        self.none(group, ((("a", "b"),),))

    def test_names_that_are_not_there(self):
        first, then = FOUR
        self.none(page_each(4), ((("a", "b"), ("c", "e")), then), ((("a", "b"), ("c", 1)), then),
                  ((("a", "b"), ("c", None)), then), ((("a", "b"), ("c", True)), then))

    def test_of_anything(self):
        things = [thing for thing in anything() if thing != ()]
        for group in [page_each(1), page_each(2), page_each(4), Group({"ann": ["x"], "zed": ["y"]}),
                      *without_plan()]:
            self.none(group, *things, *[(thing,) for thing in things],
                      *[(FOUR[0], thing) for thing in things], ((things,),), FOUR[0],
                      {FOUR: None}, {FOUR[0]: FOUR[1]}, "ab", (("a", "b"),))

    def test_every_row_of_pairs_of_two(self):
        group = Group({"ann": ["x"], "bob": ["y"]})
        names = ["ann", "bob", "zed"]
        pairs = [(one, other) for one in names for other in names]
        for pair in pairs:
            self.assertIs(is_plan(group, ((pair,),)), pair == ("ann", "bob"))
        for some in combinations(pairs, 2):
            self.assertIs(is_plan(group, (some,)), False)

    def test_the_group_stays(self):
        group = page_each(4)
        before = told_of(group)
        is_plan(group, FOUR)
        is_plan(group, [FOUR])
        self.assertEqual(told_of(group), before)


if __name__ == "__main__":
    unittest.main()
