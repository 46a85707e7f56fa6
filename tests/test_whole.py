"""[0.2], over the whole program: from a text to the desk, its plans, its log and back."""

import unittest
from random import Random

from evenhands.desk import Desk
from evenhands.errors import HandError
from evenhands.judge import is_plan, lets_by
from evenhands.keeper import Keeper, kept
from evenhands.plans import plan
from evenhands.reach import most
from evenhands.rounds import round_group, told_rounds
from evenhands.texts import group_text, read_group
from evenhands.writing import cure, mended
from tests.reference import many_groups, page_each
from tests.test_cure import some_fours
from tests.test_desk import desk_of
from tests.test_log import deed_by_chance
from tests.test_plans import of_many_calls, of_many_rounds


def calls_of(answer):
    """The rows that say the calls of a plan as the desk tells it."""
    return ["call " + word.replace("+", " ") for word in answer.replace(" / ", " ").split(" ")]


def row_of(deed):
    """The row that says a deed to the desk."""
    if deed[0] == "come":
        return " ".join(["come", deed[1], *deed[2]])
    return " ".join(map(str, deed))


class TestPlansAtTheDesk(unittest.TestCase):
    def test_a_plan_leads_to_shared(self):
        plans = 0
        for group in [page_each(6), of_many_calls(), of_many_rounds(), *many_groups(600, 141)]:
            for row in ("plan", "quick"):
                desk = desk_of(group)
                answer = desk.say(row)
                if answer not in ("none", "shared"):
                    plans += 1
                    calls = calls_of(answer)
                    self.assertEqual([desk.say(call) for call in calls], ["ok"] * len(calls))
                    self.assertEqual(desk.say(row), "shared")
                    self.assertEqual(desk.say("fewest"), "0")
                    self.assertEqual(desk.say("sound"), "none")
        self.assertGreater(plans, 50)

    def test_each_call_that_is_sound_is_done(self):
        chance = Random(142)
        for group in many_groups(100, 143):
            desk = desk_of(group)
            if desk.say("plan") != "none":
                while desk.say("plan") != "shared":
                    call = chance.choice(calls_of(desk.say("sound")))
                    self.assertEqual(desk.say(call), "ok")

    def test_the_most_leads_there(self):
        for group in many_groups(80, 144):
            for person in group.people():
                keeper = Keeper(group, watch=False)
                weight, row = most(group, person)
                keeper.all_done([("call", *pair) for pair in row])
                self.assertEqual(keeper.group().weight(person), weight)

    def test_what_is_mended_has_a_plan(self):
        for group in many_groups(80, 145):
            desk = desk_of(group)
            answer = desk.say("mend 2")
            found = mended(group)
            self.assertIs(answer == "none", found is None)
            if found is not None:
                words = [] if answer == "nobody" else answer.split(" ")
                for person, many in zip(words[::2], words[1::2]):
                    for at in range(int(many)):
                        self.assertEqual(desk.say(f"write {person} n{'abcd'[at]}{person} 1"), "ok")
                self.assertNotEqual(desk.say("plan"), "none")
                self.assertIs(is_plan(found[1], found[2]), True)

    def test_a_cure_that_fits_has_a_plan(self):
        for group in some_fours(150, 146):
            counts = cure(group)
            if counts is not None and sum(counts.values()) + len(group.pages()) <= 12:
                keeper = Keeper(group)
                for at, person in enumerate(counts):
                    for more in range(counts[person]):
                        keeper.do(("write", person, "q" + "abcd"[at] + "abcdefghijkl"[more], 1))
                self.assertEqual(plan(keeper.group())[0], "plan")

    def test_the_told_rounds_are_done(self):
        for many in (2, 4, 6):
            keeper = Keeper(round_group(many))
            people = keeper.group().people()
            keeper.all_done([("call", people[one], people[other])
                             for pairs in told_rounds(many) for one, other in pairs])
            self.assertTrue(keeper.group().shared())

    def test_just_one_of_both_is_let_by(self):
        for group in many_groups(150, 147):
            word, thing = plan(group)
            self.assertEqual((is_plan(group, thing), lets_by(group, thing)),
                             (word == "plan", word == "none"))


class TestLogs(unittest.TestCase):
    def test_a_log_said_again(self):
        chance = Random(148)
        for group in many_groups(120, 149):
            keeper = Keeper(group)
            for _ in range(12):
                try:
                    keeper.do(deed_by_chance(chance, keeper.group()))
                except HandError:
                    pass
            desk = desk_of(group)
            texts = [desk.say("text")]
            for deed in keeper.log():
                self.assertEqual(desk.say(row_of(deed)), "ok")
                texts.append(desk.say("text"))
            self.assertEqual(read_group(texts.pop().replace(" / ", "\n") + "\n"), keeper.group())
            for text in reversed(texts):
                self.assertEqual(desk.say("back"), "ok")
                self.assertEqual(desk.say("text"), text)
            self.assertEqual(desk.say("back"), "refused noback")

    def test_a_log_behind_the_text(self):
        chance = Random(150)
        for group in many_groups(80, 151):
            keeper = Keeper(group, watch=False)
            for _ in range(10):
                try:
                    keeper.do(deed_by_chance(chance, keeper.group()))
                except HandError:
                    pass
            again = kept(read_group(group_text(group)), keeper.log(), watch=False)
            self.assertEqual(again.group(), keeper.group())
            while again.log():
                again.back()
                keeper.back()
                self.assertEqual(again.group(), keeper.group())
            self.assertEqual(again.group(), group)


class TestDesks(unittest.TestCase):
    def test_desks_know_nothing_of_one_another(self):
        """Groups of the same people and pages, of other leaves or bars, side by side."""
        rows = ("hold a x", "hold b y")
        desks = [Desk() for _ in range(3)]
        for desk, more in zip(desks, ((), ("page y 2",), ("bar a b",))):
            for row in ("group", *rows, *more, "over"):
                desk.say(row)
        for _ in range(2):
            self.assertEqual([desk.say("plan") for desk in desks], ["a+b", "none", "none"])
            self.assertEqual([desk.say("most a") for desk in desks], ["2", "1", "1"])
            self.assertEqual([desk.say("sound") for desk in desks], ["a+b", "none", "none"])
            self.assertEqual([desk.say("mend 1") for desk in desks], ["nobody", "a 1", "none"])


if __name__ == "__main__":
    unittest.main()
