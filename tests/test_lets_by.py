"""[6.1], [0.2] (b): lets_by, the judge of papers that there is no plan."""

import time
import unittest
from copy import deepcopy
from itertools import combinations

from evenhands.calls import behind
from evenhands.groups import Group
from evenhands.judge import is_plan, lets_by
from evenhands.matchings import barrier, least_ones, matchings
from evenhands.plans import plan
from tests.helper import anything, some_groups, told_of
from tests.reference import joined_by, many_groups, page_each, paper_of, plans_of, with_state
from tests.test_paper import papers, wide
from tests.test_plans import shared_groups, without_plan

TWO = Group({"a": ["x"], "b": ["y"]}, barred=[("b", "a")])


def one_step():
    """A group of one matching, behind which there is none, and the paper of both states."""
    group = Group({"a": ["x"], "b": ["y"], "c": ["x", "y", "z"]})
    return group, {(("x",), ("y",), ("x", "y", "z")): None,
                   (("x", "y"), ("x", "y"), ("x", "y", "z")): ()}


def star(middle, others):
    """A group in which these others may call the middle one alone."""
    return joined_by(sorted(middle + others), [tuple(sorted((middle, one))) for one in others])


class TestLetBy(unittest.TestCase):
    def yes(self, group, *papers):
        for paper in papers:
            before = deepcopy(paper)
            self.assertIs(lets_by(group, paper), True, paper)
            self.assertEqual(list(paper.items()), list(before.items()))

    def test_what_plan_tells(self):
        for group, paper in papers():
            self.yes(group, paper)

    def test_the_order_of_the_keys_counts_for_nothing(self):
        paper = plan(wide())[1]
        self.yes(wide(), {state: paper[state] for state in reversed(list(paper))})

    def test_more_states_that_are_right(self):
        group, paper = one_step()
        more = {(("x", "y"), ("z",), ()): (), (("x", "z"), ("y",), ("x", "y", "z")): (),
                (("x", "y", "z"), ("x", "z"), ("y", "z", "x")[::-1]): None}
        self.assertEqual(least_ones(with_state(group, (("x", "y"), ("z",), ()))), ["c"])
        self.yes(group, {**paper, (("x", "y"), ("z",), ()): ()})
        self.yes(group, {**paper, (("x", "z"), ("y",), ("x", "y", "z")): ()})
        self.assertIs(lets_by(group, {**paper, **more}), False)

    def test_more_states_of_a_group_with_a_matching(self):
        group, paper = one_step()
        more = {(("z",), ("y",), ("x", "y", "z")): None,
                (("y", "z"), ("y", "z"), ("x", "y", "z")): ()}
        self.yes(group, {**paper, **more}, {**more, **paper})
        self.assertIs(lets_by(group, more), False)

    def test_a_greater_set_shows_it_too(self):
        group = star("a", "bcdef")
        self.yes(group, {group.state(): ("a",)})
        self.assertEqual(barrier(group), ("a",))
        self.yes(group, {group.state(): ("a", "b")})
        self.assertIs(lets_by(group, {group.state(): ("a", "b", "c")}), False)

    def test_none_where_there_is_no_matching(self):
        for group in (page_each(3), TWO, Group({"a": ["x"], "b": []}), star("c", "abdf")):
            self.assertEqual(matchings(group), [])
            self.yes(group, {group.state(): None}, {group.state(): barrier(group)})

    def test_nobody_as_a_barrier(self):
        self.yes(page_each(3), {page_each(3).state(): ()})
        self.yes(TWO, {TWO.state(): ()})


class TestNot(unittest.TestCase):
    def no(self, group, *things):
        for thing in things:
            before = deepcopy(thing)
            self.assertIs(lets_by(group, thing), False, thing)
            self.assertEqual(thing, before)

    def test_a_state_left_out(self):
        for group, paper in [one_step(), (wide(), plan(wide())[1])]:
            for state in paper:
                self.no(group, {other: paper[other] for other in paper if other != state})
        self.no(group, {})

    def test_states_left_out_of_many(self):
        for group, paper in papers():
            for state in list(paper)[:5]:
                left = {other: paper[other] for other in paper if other != state}
                self.no(group, left)

    def test_the_own_state_left_out(self):
        group, paper = one_step()
        last = behind(group, [("a", "b")]).state()
        self.no(group, {last: paper[last]})
        self.no(page_each(3), {})
        self.no(TWO, {(("y",), ("x",)): ()})

    def test_tuples_where_there_is_a_matching(self):
        for group, paper in papers():
            for state, some in paper.items():
                if some is None and matchings(with_state(group, state)):
                    for people in [(), *combinations(least_ones(with_state(group, state)), 2)]:
                        self.no(group, {**paper, state: people})

    def test_sets_that_keep_no_matching_away(self):
        group = star("a", "bcdef")
        people = "abcdef"
        sets = [some for many in range(7) for some in combinations(people, many)]
        right = [some for some in sets if some == ("a",) or len(some) == 2 and "a" in some]
        for some in sets:
            self.assertIs(lets_by(group, {group.state(): some}), some in right)

    def test_sets_that_are_no_rising_tuples_of_least_ones(self):
        group = star("a", "bcdef")
        self.no(group, *[{group.state(): some} for some in (
            ["a"], ["a", "b"], ("b", "a"), ("a", "a"), ("a", "b", "b"), "a", "ab", {"a": 1}, ("z",),
            ("a", "z"), ("a", 1), ("a", None), ("a", ["b"]), (("a",),), 0, False, True, 1, [], {},
            "")])
        self.no(page_each(3), *[{page_each(3).state(): some} for some in ([], {}, "", 0, False)])

    def test_people_who_are_no_least_ones(self):
        group = Group({"a": ["x"], "b": ["y"], "c": ["w"], "d": ["z"], "e": ["y", "z"],
                       "f": ["w", "x", "y", "z"]}, barred=[("a", "b"), ("a", "d"), ("b", "d")])
        self.assertEqual(least_ones(group), ["a", "b", "c", "d"])
        self.assertEqual(barrier(group), ("c",))
        self.assertIs(lets_by(group, {group.state(): ("c",)}), True)
        self.no(group, *[{group.state(): some}
                         for some in (("c", "e"), ("c", "f"), ("e",), ("f",), ("e", "f"))])

    def test_where_all_hold_all(self):
        for group in shared_groups():
            self.no(group, *[{group.state(): some} for some in (None, (), ("a",), ("b",))])
        group, paper = one_step()
        all_three = (("x", "y", "z"),) * 3
        self.no(group, *[{**paper, all_three: some} for some in (None, (), ("a",))])

    def test_states_of_other_people_or_pages(self):
        group, paper = one_step()
        full = ("x", "y", "z")
        wrong = [
            (), (full,), (("x",), full), (("x",), ("y",), full, ("x",)),
            (("x",), ("y",), ("x", "y")), (("x",), (), ()), ((), (), ()),
            (("x",), ("y",), (*full, "zz")), (("x",), ("w",), full), (("x",), (1,), full),
            (("x",), (None,), full), (("x",), (("x",),), full), (("x",), ("y",), ("z", "y", "x")),
            (("x",), ("y", "x"), full), (("x",), ("y", "y"), full), (("x", "x"), ("y",), full),
            (("x",), "y", full), ("x", "y", full), ("x", "y", "xyz"), (("x",), None, full),
            (("x",), 1, full), (("X",), ("y",), full), (("x",), ("y",), ("xyz",)),
        ]
        for state in wrong:
            for some in (None, (), ("a",), ("c",)):
                self.no(group, {**paper, state: some}, {state: some, **paper}, {state: some})

    def test_keys_of_anything(self):
        group, paper = one_step()
        for thing in anything():
            if not {"[", "{"} & set(repr(thing)):
                self.no(group, {**paper, thing: None}, {thing: None, **paper}, {thing: ()})

    def test_barriers_of_anything(self):
        group, paper = one_step()
        last = behind(group, [("a", "b")]).state()
        for thing in anything():
            self.no(group, {**paper, group.state(): thing} if thing is not None else {})
            if thing is not None and thing != ():
                self.no(group, {**paper, last: thing})

    def test_no_dict(self):
        for group, paper in [one_step(), (page_each(3), {page_each(3).state(): ()})]:
            self.assertIs(lets_by(group, paper), True)
            self.no(group, list(paper.items()), tuple(paper.items()), list(paper), tuple(paper),
                    group.state(), *anything())

    def test_of_groups_with_a_plan(self):
        for group in [page_each(2), page_each(4), page_each(6), *shared_groups()]:
            paper = paper_of(group)
            self.no(group, paper, {state: None for state in paper}, {group.state(): None},
                    {group.state(): ()}, *anything())


class TestNeverBoth(unittest.TestCase):
    def test_over_many_groups(self):
        for group in [*some_groups(), *many_groups(300, 21), *without_plan(), *shared_groups()]:
            word, thing = plan(group)
            paper = paper_of(group)
            plans = plans_of(group)
            tries = [thing, paper, {state: None for state in paper}]
            for state in paper:
                tries.append({**paper, state: ()})
                tries.append({**paper, state: tuple(least_ones(with_state(group, state))[:1])})
            let = any(lets_by(group, some) for some in tries)
            self.assertIs(let, word == "none")
            self.assertIs(any(is_plan(group, some) for some in [*tries, *plans, ()]),
                          word == "plan")

    def test_other_leaves_or_bars_are_other_groups(self):
        held = {"a": ["x"], "b": ["y"]}
        paper = {(("x",), ("y",)): ()}
        for _ in range(2):
            self.assertIs(lets_by(Group(held), paper), False)
            self.assertIs(lets_by(Group(held, leaves={"y": 2}), paper), True)
            self.assertIs(lets_by(Group(held, leaves={"y": 2, "x": 2}), paper), False)
            self.assertIs(lets_by(Group(held, barred=[("a", "b")]), paper), True)
        four = page_each(4)
        barred = Group(dict(zip("abcd", four.state())), barred=list(combinations("abcd", 2)))
        self.assertIs(lets_by(barred, {four.state(): ()}), True)
        self.assertIs(lets_by(barred, {four.state(): None}), True)
        self.assertIs(lets_by(four, {four.state(): None}), False)
        self.assertIs(lets_by(four, {four.state(): ()}), False)

    def test_the_group_stays(self):
        group, paper = one_step()
        before = told_of(group)
        lets_by(group, paper)
        lets_by(group, {group.state(): ()})
        self.assertEqual(told_of(group), before)

    def test_it_is_fast(self):
        group = wide()
        paper = plan(group)[1]
        begun = time.process_time()
        self.assertIs(lets_by(group, paper), True)
        self.assertLess(time.process_time() - begun, 1)


if __name__ == "__main__":
    unittest.main()
