"""[7.1], [0.2] (d): told_rounds, fewest_calls, round_group."""

import unittest
from itertools import combinations

from evenhands.calls import behind, may
from evenhands.errors import NoNumber
from evenhands.groups import Group
from evenhands.judge import is_plan
from evenhands.plans import plan
from evenhands.rounds import fewest_calls, round_group, told_rounds
from tests.helper import anything, refused
from tests.reference import calls_in, page_each

EVEN = range(2, 65, 2)


def is_even_number(thing, least, most):
    return type(thing) is int and least <= thing <= most


def fewest_by_trying(many):
    """The fewest calls of all rows of even calls by which so many share all; None where none does."""
    start = tuple(frozenset([at]) for at in range(many))
    full = (frozenset(range(many)),) * many
    seen = {start}
    now = {start}
    calls = 0
    while now and full not in now:
        later = set()
        for state in now:
            for one, other in combinations(range(many), 2):
                both = state[one] | state[other]
                if len(state[one]) == len(state[other]) < len(both):
                    lots = list(state)
                    lots[one] = lots[other] = both
                    later.add(tuple(lots))
        now = later - seen
        seen |= now
        calls += 1
    return calls if now else None


class TestToldRounds(unittest.TestCase):
    def test_two_four_six_eight(self):
        self.assertEqual(told_rounds(2), [[(0, 1)]])
        self.assertEqual(told_rounds(4), [[(0, 1), (2, 3)], [(0, 3), (1, 2)]])
        self.assertEqual(told_rounds(6), [[(0, 1), (2, 3), (4, 5)], [(0, 3), (1, 4), (2, 5)],
                                          [(0, 1), (2, 3), (4, 5)]])
        self.assertEqual(told_rounds(8), [
            [(0, 1), (2, 3), (4, 5), (6, 7)], [(0, 3), (1, 6), (2, 5), (4, 7)],
            [(0, 7), (1, 2), (3, 4), (5, 6)]])

    def test_as_the_document_tells_them(self):
        for many in EVEN:
            half = many // 2
            expected = []
            r = 0
            while 2 ** r < many:
                pairs = [(2 * j, 2 * ((j + 2 ** r - 1) % half) + 1) for j in range(half)]
                expected.append(sorted(tuple(sorted(pair)) for pair in pairs))
                r += 1
            self.assertEqual(told_rounds(many), expected)

    def test_each_number_once_the_lesser_ahead_rising(self):
        for many in EVEN:
            for pairs in told_rounds(many):
                self.assertIs(type(pairs), list)
                self.assertEqual(pairs, sorted(pairs))
                self.assertEqual(sorted(at for pair in pairs for at in pair), list(range(many)))
                for pair in pairs:
                    self.assertIs(type(pair), tuple)
                    self.assertLess(*pair)

    def test_each_call_is_even_and_all_share_at_the_end(self):
        for many in EVEN:
            lots = [{at} for at in range(many)]
            rounds = told_rounds(many)
            for r, pairs in enumerate(rounds):
                for one, other in pairs:
                    self.assertEqual(len(lots[one]), len(lots[other]))
                    self.assertNotEqual(lots[one], lots[other])
                    lots[one] = lots[other] = lots[one] | lots[other]
                for lot in lots:
                    self.assertEqual(len(lot), min(2 ** (r + 1), many))
            self.assertEqual(lots, [set(range(many))] * many)
            # By fewer rounds one comes to no more than 2 ** rounds pages.
            self.assertLess(2 ** (len(rounds) - 1), many)

    def test_made_by_a_group(self):
        for many in (2, 4, 6):
            group = round_group(many)
            people = group.people()
            rounds = [tuple((people[one], people[other]) for one, other in pairs)
                      for pairs in told_rounds(many)]
            self.assertTrue(behind(group, [pair for pairs in rounds for pair in pairs]).shared())
            self.assertIs(is_plan(group, tuple(rounds)), True)

    def test_no_numbers(self):
        for thing in [-64, -2, -1, 0, 65, 66, 128, *range(1, 65, 2), *anything(), "2", [2], (4,)]:
            if not is_even_number(thing, 2, 64) or thing % 2 == 1:
                refused(self, NoNumber, {}, told_rounds, thing)

    def test_lists_are_the_askers_own(self):
        for many in (2, 6):
            expected = told_rounds(many)
            rounds = told_rounds(many)
            rounds[0].clear()
            rounds.append([(0, 0)])
            self.assertEqual(told_rounds(many), expected)

    def test_by_name(self):
        self.assertEqual(told_rounds(many=4), told_rounds(4))
        self.assertEqual(fewest_calls(many=4), 4)
        self.assertEqual(round_group(many=4), round_group(4))


class TestFewestCalls(unittest.TestCase):
    def test_some(self):
        told = {1: 0, 2: 1, 3: None, 4: 4, 5: None, 6: 9, 8: 12, 10: 20, 62: 186, 63: None, 64: 192}
        for many, calls in told.items():
            self.assertEqual(fewest_calls(many), calls)

    def test_as_many_as_the_told_rounds_have(self):
        for many in EVEN:
            self.assertEqual(fewest_calls(many), sum(map(len, told_rounds(many))))
            self.assertIs(type(fewest_calls(many)), int)

    def test_odd_ones(self):
        self.assertEqual(fewest_calls(1), 0)
        self.assertIs(type(fewest_calls(1)), int)
        for many in range(3, 65, 2):
            self.assertIsNone(fewest_calls(many))

    def test_beside_all_rows_of_even_calls(self):
        for many in range(1, 7):
            self.assertEqual(fewest_calls(many), fewest_by_trying(many))

    def test_beside_plans(self):
        for many in range(1, 7):
            word, levels = plan(round_group(many))
            self.assertEqual(fewest_calls(many), calls_in(levels) if word == "plan" else None)

    def test_no_numbers(self):
        for thing in [-1, -2, 0, 65, 66, *anything(), "1", [1], (1,)]:
            if not is_even_number(thing, 1, 64):
                refused(self, NoNumber, {}, fewest_calls, thing)


class TestRoundGroup(unittest.TestCase):
    def test_one_to_six(self):
        for many in range(1, 7):
            group = round_group(many)
            letters = list("abcdef"[:many])
            self.assertIs(type(group), Group)
            self.assertEqual(group.people(), letters)
            self.assertEqual(group.pages(), letters)
            self.assertEqual(group.state(), tuple((letter,) for letter in letters))
            self.assertEqual([group.leaves(letter) for letter in letters], [1] * many)
            self.assertEqual(group.barred(), [])
            self.assertEqual(group, page_each(many))
            if many > 1:
                self.assertTrue(may(group, "a", "b"))

    def test_no_numbers(self):
        for thing in [-1, 0, 7, 8, 64, *anything(), "1", [1], (1,)]:
            if not is_even_number(thing, 1, 6):
                refused(self, NoNumber, {}, round_group, thing)


if __name__ == "__main__":
    unittest.main()
