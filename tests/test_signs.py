"""[2.2], [0.2] (c): signs_against."""

import unittest
from itertools import permutations

from evenhands.calls import behind, called, may, signs_against
from evenhands.groups import Group
from tests.helper import PEOPLE, some_groups, told_of

GROUPS = (
    ([], {"a": ["x"], "b": ["y"]}, {}),
    (["odd"], {"a": ["x"], "b": ["y"], "c": ["z"]}, {}),
    (["sum"], {"a": ["x"], "b": ["y", "z"]}, {}),
    (["alone"], {"a": ["x", "y"], "b": ["y"], "c": ["y"]}, {}),
    (["odd", "sum"], {"a": ["x"], "b": ["y"], "c": ["x"]}, {}),
    (["odd", "alone"], {"a": ["x", "y"], "b": []}, {}),
    (["sum", "alone"], {"a": ["x", "y"], "b": ["y"], "c": []}, {}),
    (["odd", "sum", "alone"], {"a": ["x", "y"], "b": ["y"]}, {}),
    # Leaves count, not pages.
    (["sum"], {"a": ["x"], "b": ["y"]}, {"x": 2}),
    ([], {"a": ["x"], "b": ["y", "z"]}, {"x": 2}),
    (["odd"], {"a": ["x"], "b": ["y"], "c": ["x"]}, {"x": 2, "y": 2}),
    # The sum is even, and people times all leaves are odd.
    (["sum", "alone"], {"a": ["x", "y", "z"], "b": ["x"], "c": []}, {"x": 5, "z": 3}),
    # Both are odd, or both even.
    (["alone"], {"a": ["x", "y", "z"], "b": ["x"], "c": ["y"]}, {"x": 5, "z": 3}),
    (["alone"], {"a": ["x"], "b": ["x"], "c": ["x"], "d": [], "e": []}, {"x": 2}),
    # Nobody holds all, and a page is held by one alone.
    ([], {"a": ["x", "y"], "b": ["y", "z"]}, {}),
    # The page that one alone holds is held by somebody who lacks another.
    ([], {"a": ["x", "y"], "b": ["x"], "c": ["y"]}, {"x": 2, "y": 2}),
)


def expected(group):
    """The words, reckoned by the letter of [2.2]."""
    lack = [one for one in group.people() if set(group.held(one)) != set(group.pages())]
    weights = sum(group.weight(one) for one in group.people())
    whole = len(group.people()) * sum(group.leaves(page) for page in group.pages())
    alone = [page for page in group.pages()
             if all(one not in lack for one in group.people() if page in group.held(one))]
    words = (("odd", len(lack) % 2 == 1), ("sum", weights % 2 != whole % 2),
             ("alone", bool(lack) and bool(alone)))
    return [word for word, holds in words if holds]


class TestSigns(unittest.TestCase):
    def test_several_people_hold_all(self):
        group = Group({"a": ["x", "y"], "b": ["x", "y"], "c": ["x"], "d": ["x"]})
        self.assertEqual(signs_against(group), ["alone"])

    def test_each_word_alone_several_none(self):
        for words, held, leaves in GROUPS:
            self.assertEqual(signs_against(Group(held, leaves=leaves)), words, (held, leaves))

    def test_a_group_that_shares_all(self):
        for many in range(1, 7):
            for pages in ([], ["x"], ["x", "y"], ["x", "y", "z"]):
                group = Group({letter: pages for letter in "abcdef"[:many]})
                self.assertEqual(signs_against(group), [])
        self.assertEqual(signs_against(Group({"a": ["x"], "b": ["x"]}, leaves={"x": 3})), [])

    def test_many_groups(self):
        seen = set()
        for group in some_groups():
            ahead = told_of(group)
            words = signs_against(group)
            self.assertEqual(words, expected(group))
            self.assertEqual(told_of(group), ahead)
            seen.add(tuple(words))
        self.assertEqual(len(seen), 8)

    def test_bars_count_for_nothing(self):
        for _, held, leaves in GROUPS:
            barred = list(permutations(held, 2))
            group = Group(held, leaves=leaves, barred=barred)
            self.assertEqual(signs_against(group), signs_against(Group(held, leaves=leaves)))

    def test_a_new_list_each_time(self):
        group = Group({"a": ["x", "y"], "b": ["y"]})
        signs_against(group).clear()
        self.assertEqual(signs_against(group), ["odd", "sum", "alone"])
        self.assertIs(type(signs_against(group)), list)
        self.assertEqual(signs_against(group=group), ["odd", "sum", "alone"])


class TestBehindCalls(unittest.TestCase):
    def check(self, group):
        ahead = signs_against(group)
        for one, other in permutations(group.people(), 2):
            if one < other and may(group, one, other):
                after = called(group, one, other)
                words = signs_against(after)
                self.assertEqual([word in words for word in ("odd", "sum")],
                                 [word in ahead for word in ("odd", "sum")])
                if "alone" in ahead:
                    self.assertIn("alone", words)
                self.check(after)

    def test_odd_and_sum_stay_and_alone_once_told(self):
        for group in some_groups():
            self.check(group)

    def test_of_five_people(self):
        self.check(Group({"a": ["x"], "b": ["y"], "c": ["z"], "d": ["w"], "e": ["v", "u"]}))
        self.check(Group({"a": ["x", "y"], "b": ["y"], "c": ["x"], "d": [], "e": ["x"]}))

    def test_alone_may_come_by_calls(self):
        group = Group({"a": ["x"], "b": ["y"], "c": ["x"], "d": ["x"]})
        self.assertNotIn("alone", signs_against(group))
        self.assertIn("alone", signs_against(behind(group, [("a", "b")])))

    def test_none_of_a_group_that_comes_to_share_all(self):
        group = Group({"a": ["x"], "b": ["y"], "c": ["z"], "d": ["w"]})
        for calls in ([], [("a", "b")], [("a", "b"), ("c", "d")],
                      [("a", "b"), ("c", "d"), ("a", "c"), ("b", "d")]):
            self.assertEqual(signs_against(behind(group, calls)), [])

    def test_who_is_told_a_word_never_shares_all(self):
        for group in some_groups():
            if signs_against(group) != []:
                self.assertFalse(self.comes_to_share(group))

    def comes_to_share(self, group):
        pairs = [pair for pair in permutations(PEOPLE, 2) if may(group, *pair)]
        return group.shared() or any(self.comes_to_share(called(group, *pair)) for pair in pairs)


if __name__ == "__main__":
    unittest.main()
