"""[5.1], [5.2]: rounds_of, and what is a plan for it."""

import unittest

from evenhands.errors import NoCall
from evenhands.groups import Group
from evenhands.plans import plan, rounds_of
from tests.helper import anything, refused, told_of
from tests.reference import many_groups, page_each, plans_of, rounds_by_hand
from tests.test_plans import SIX, of_many_calls, of_many_rounds, shared_groups

FOUR = ((("a", "b"), ("c", "d")), (("a", "c"), ("b", "d")))


class TestRounds(unittest.TestCase):
    def test_no_rounds(self):
        for group in shared_groups():
            self.assertEqual(rounds_of(group, ()), [])

    def test_a_round_for_each_matching_of_all(self):
        self.assertEqual(rounds_of(page_each(2), ((("a", "b"),),)), [(("a", "b"),)])
        self.assertEqual(rounds_of(page_each(4), FOUR), list(FOUR))
        self.assertEqual(rounds_of(page_each(6), SIX), list(SIX))

    def test_a_later_matching_in_an_earlier_round(self):
        best = plan(of_many_rounds())[1]
        self.assertEqual(len(best), 3)
        self.assertEqual(rounds_of(of_many_rounds(), best), [
            (("a", "d"), ("b", "e"), ("c", "f")), (("a", "b"), ("c", "d"), ("e", "f"))])

    def test_a_round_rises(self):
        # The first round has a call of the second matching, ahead of the one of the first.
        group = Group({"a": ["x", "z"], "b": ["y", "z"], "c": ["x"], "d": ["y"],
                       "e": ["x", "z"], "f": ["y", "z"]})
        levels = ((("c", "d"),), (("a", "b"), ("c", "e"), ("d", "f")))
        self.assertEqual(rounds_of(group, levels), [
            (("a", "b"), ("c", "d")), (("c", "e"), ("d", "f"))])

    def test_of_all_plans_of_many_groups(self):
        seen = 0
        for group in [of_many_calls(), of_many_rounds(), page_each(4), *many_groups(400, 71)]:
            for levels in plans_of(group)[:100]:
                rounds = rounds_of(group, levels)
                self.assertEqual(rounds, rounds_by_hand(levels))
                self.assertEqual(rounds, [tuple(sorted(pairs)) for pairs in rounds])
                seen += len(rounds) < len(levels)
        self.assertGreater(seen, 5)

    def test_kinds_and_names(self):
        rounds = rounds_of(levels=FOUR, group=page_each(4))
        self.assertIs(type(rounds), list)
        self.assertEqual({type(pairs) for pairs in rounds}, {tuple})
        self.assertEqual({type(pair) for pairs in rounds for pair in pairs}, {tuple})

    def test_nothing_hangs_on_it(self):
        group = page_each(4)
        rounds_of(group, FOUR).clear()
        self.assertEqual(rounds_of(group, FOUR), list(FOUR))
        self.assertEqual(told_of(group), told_of(page_each(4)))


class TestRefused(unittest.TestCase):
    def no_plan(self, at, levels, group=None):
        group = group or page_each(4)
        refused(self, NoCall, {"at": at}, rounds_of, group, levels)

    def test_no_tuple(self):
        for group in [page_each(4), *shared_groups()]:
            for thing in [*anything(), list(FOUR), [], "", "abcd", 0, 2, {}, {0: FOUR}]:
                if not isinstance(thing, tuple):
                    self.no_plan(0, thing, group)

    def test_no_matching(self):
        for thing in anything():
            self.no_plan(0, (thing,))
            self.no_plan(0, (thing, *FOUR))
            self.no_plan(1, (FOUR[0], thing))
            self.no_plan(1, (FOUR[0], thing, FOUR[1]))
            self.no_plan(2, (*FOUR, thing))
            if isinstance(thing, tuple) and thing:
                self.no_plan(0, thing)

    def test_people_lack_behind(self):
        self.no_plan(0, ())
        self.no_plan(1, FOUR[:1])
        for many in range(3):
            self.no_plan(many, SIX[:many], page_each(6))
        self.no_plan(0, (), page_each(3))

    def test_pairs_turned_about(self):
        self.no_plan(0, ((("b", "a"), ("c", "d")), FOUR[1]))
        self.no_plan(1, (FOUR[0], (("a", "c"), ("d", "b"))))

    def test_a_matching_out_of_order(self):
        self.no_plan(0, ((("c", "d"), ("a", "b")), FOUR[1]))
        self.no_plan(1, (FOUR[0], (("b", "d"), ("a", "c"))))
        self.no_plan(1, (FOUR[0], FOUR[0]))

    def test_lists_for_tuples(self):
        self.no_plan(0, ([("a", "b"), ("c", "d")], FOUR[1]))
        self.no_plan(0, ((["a", "b"], ("c", "d")), FOUR[1]))
        self.no_plan(1, (FOUR[0], list(FOUR[1])))
        self.no_plan(1, (FOUR[0], (("a", "c"), ["b", "d"])))

    def test_nobody_put_in(self):
        self.no_plan(0, ((), *FOUR))
        self.no_plan(1, (FOUR[0], (), FOUR[1]))
        self.no_plan(2, (*FOUR, ()))
        for group in shared_groups():
            self.no_plan(0, ((),), group)

    def test_a_matching_more_behind(self):
        self.no_plan(2, (*FOUR, FOUR[1]))
        self.no_plan(2, (*FOUR, FOUR[0]))
        self.no_plan(3, (*SIX, SIX[0]), page_each(6))
        self.no_plan(0, ((("a", "b"),),), shared_groups()[3])

    def test_parts_of_one_matching_told_apart(self):
        self.no_plan(0, ((("a", "b"),), (("c", "d"),), FOUR[1]))
        self.no_plan(1, (FOUR[0], (("a", "c"),), (("b", "d"),)))

    def test_calls_that_are_no_pairs_of_the_least_ones(self):
        self.no_plan(0, ((("a", "b"), ("c", "e")),))
        self.no_plan(0, ((("a", "b"), ("a", "b")),))
        self.no_plan(0, ((("a", "a"), ("c", "d")),))
        self.no_plan(1, (FOUR[0], (("a", "b"), ("c", "d"))))
        group = Group({"a": ["x"], "b": ["y"], "c": ["x", "z"], "d": ["y", "z"]})
        self.no_plan(0, ((("a", "b"), ("c", "d")),), group)
        self.no_plan(0, ((("c", "d"),), (("a", "b"),)), group)
        barred = Group({"a": ["x"], "b": ["y"], "c": ["x"], "d": ["y"]}, barred=[("a", "b")])
        self.no_plan(0, (FOUR[0],), barred)


if __name__ == "__main__":
    unittest.main()
