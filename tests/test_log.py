"""[10.3], [0.2] (h): all_done, back, log, twin, tries, kept."""

import unittest
from copy import deepcopy
from random import Random

from evenhands.calls import called
from evenhands.errors import (
    HandError, Idle, NoBack, NoDeed, NoPage, NoPerson, Spoils, TooMany, Twice, Uneven)
from evenhands.groups import Group
from evenhands.keeper import Keeper, kept
from tests.helper import anything, refused, told_of
from tests.reference import many_groups, page_each

DEEDS = [("come", "e", ("w", "a")), ("call", "a", "b"), ("write", "e", "v", 3), ("go", "c"),
         ("call", "e", "d"), ("come", "c", ("w",))]


def some_group():
    return Group({"a": ["a"], "b": ["b"], "c": ["c"], "d": ["d", "u"]}, leaves={"u": 4},
                 barred=[("c", "d")])


def stands(keeper):
    return keeper.group(), keeper.log()


def deed_by_chance(chance, group):
    """A deed, right or wrong, as chance has it."""
    people = [*group.people(), "zed"]
    pages = [*group.pages(), "v", "w", "V"]
    one, other = chance.choice(people), chance.choice(people)
    return chance.choice([
        ("call", one, other), ("call", one, other), ("call", one, other),
        ("write", one, chance.choice(pages), chance.randint(0, 4)),
        ("come", chance.choice(["a", "b", "n", "z", "Z"]),
         tuple(chance.choice(pages) for _ in range(chance.randint(0, 3)))),
        ("go", one), ("go",), None, ["call", one, other]])


class TestAllDone(unittest.TestCase):
    def test_all(self):
        for rows in (DEEDS, tuple(DEEDS)):
            keeper = Keeper(some_group())
            self.assertIsNone(keeper.all_done(rows))
            single = Keeper(some_group())
            for deed in DEEDS:
                self.assertIsNone(single.do(deed))
            self.assertEqual(stands(keeper), stands(single))
            self.assertEqual(keeper.tries(), (1, 1))

    def test_no_deeds(self):
        keeper = Keeper(some_group())
        self.assertIsNone(keeper.all_done([]))
        self.assertIsNone(keeper.all_done(()))
        self.assertEqual(stands(keeper), (some_group(), []))
        self.assertEqual(keeper.tries(), (2, 2))
        refused(self, NoBack, {}, keeper.back)

    def test_none_where_one_is_refused(self):
        wrong = {
            ("call", "a", "z"): (NoPerson, {"name": "z"}),
            ("call", "a", "b"): (Idle, {}),
            ("call", "e", "a"): (Uneven, {"gives": 4, "gets": 1}),
            ("come", "a", ()): (Twice, {"name": "a"}),
            ("write", "a", "?", 1): (NoPage, {"name": "?"}),
        }
        for deed, (kind, fields) in wrong.items():
            for more in ([], [("go", "nobody")], [("go", "a")]):
                keeper = Keeper(some_group())
                keeper.do(("go", "c"))
                before = stands(keeper)
                refused(self, kind, fields, keeper.all_done,
                        [("come", "e", ("w", "a")), ("call", "a", "b"), ("write", "e", "v", 3), deed,
                         *more])
                self.assertEqual(stands(keeper), before)
                self.assertEqual(keeper.tries(), (2, 2))

    def test_each_is_judged_behind_those_ahead(self):
        keeper = Keeper(page_each(2))
        refused(self, Idle, {}, keeper.all_done, [("call", "a", "b"), ("call", "b", "a")])
        refused(self, TooMany, {}, keeper.all_done, [("go", "a"), ("go", "b")])
        refused(self, NoPerson, {"name": "c"}, keeper.all_done,
                [("call", "a", "c"), ("come", "c", ())])
        self.assertIsNone(keeper.all_done([("come", "c", ("c",)), ("call", "a", "c")]))

    def test_watching(self):
        group = Group({"a": ["w"], "b": ["u"], "c": ["v"], "d": ["w"]})
        deeds = [("write", "a", "x", 1), ("go", "a"), ("come", "a", ("w",)), ("call", "b", "c")]
        keeper = Keeper(group)
        refused(self, Spoils, {"stuck": ("a", "d")}, keeper.all_done, deeds)
        self.assertEqual(stands(keeper), (group, []))
        keeper = Keeper(group, watch=False)
        self.assertIsNone(keeper.all_done(deeds))
        self.assertEqual(keeper.log(), deeds)

    def test_no_deed_ahead_of_all(self):
        right = ("call", "a", "b")
        for thing in [*anything(), ["call", "a", "b"], ("call", "a"), ("back",)]:
            keeper = Keeper(some_group())
            refused(self, NoDeed, {"at": 0}, keeper.all_done, [thing])
            refused(self, NoDeed, {"at": 1}, keeper.all_done, [right, thing, None])
            refused(self, NoDeed, {"at": 2}, keeper.all_done, (("go", "nobody"), right, thing))
            self.assertEqual(stands(keeper), (some_group(), []))
            self.assertEqual(keeper.tries(), (3, 3))

    def test_no_list(self):
        for thing in [*anything(), "call", {("go", "a"): 1}]:
            if not isinstance(thing, (list, tuple)):
                keeper = Keeper(some_group())
                refused(self, NoDeed, {"at": 0}, keeper.all_done, thing)
                self.assertEqual(keeper.tries(), (1, 1))
        refused(self, NoDeed, {"at": 0}, Keeper(some_group()).all_done, ("go", "a"))

    def test_what_was_handed_in_stays(self):
        deeds = list(DEEDS)
        keeper = Keeper(some_group())
        keeper.all_done(deeds=deeds)
        self.assertEqual(deeds, DEEDS)
        log = keeper.log()
        deeds.clear()
        self.assertEqual(keeper.log(), log)


class TestBack(unittest.TestCase):
    def test_none_stands(self):
        keeper = Keeper(some_group())
        refused(self, NoBack, {}, keeper.back)
        keeper.do(DEEDS[0])
        self.assertIsNone(keeper.back())
        refused(self, NoBack, {}, keeper.back)
        self.assertEqual(stands(keeper), (some_group(), []))
        self.assertEqual(keeper.tries(), (1, 1))

    def test_deed_by_deed(self):
        keeper = Keeper(some_group())
        stood = []
        for deed in DEEDS:
            stood.append(stands(keeper))
            keeper.do(deed)
        for before in reversed(stood):
            self.assertIsNone(keeper.back())
            self.assertEqual(stands(keeper), before)
        self.assertEqual(keeper.group(), some_group())
        refused(self, NoBack, {}, keeper.back)

    def test_the_last_of_an_all_done_alone(self):
        keeper = Keeper(some_group())
        keeper.all_done(DEEDS)
        for many in reversed(range(len(DEEDS))):
            keeper.back()
            self.assertEqual(stands(keeper), stands(kept(some_group(), DEEDS[:many])))
        refused(self, NoBack, {}, keeper.back)

    def test_refused_deeds_are_not_taken_back(self):
        keeper = Keeper(some_group())
        keeper.do(DEEDS[0])
        keeper.do(DEEDS[1])
        for deed in (("go", "zed"), None, ("call", "a", "b")):
            with self.assertRaises(HandError):
                keeper.do(deed)
        keeper.back()
        self.assertEqual(stands(keeper), stands(kept(some_group(), DEEDS[:1])))

    def test_on_and_back_again(self):
        keeper = Keeper(some_group())
        for _ in range(3):
            keeper.all_done(DEEDS)
            for _ in DEEDS:
                keeper.back()
        self.assertEqual(stands(keeper), (some_group(), []))
        self.assertEqual(keeper.tries(), (3, 3))


class TestLog(unittest.TestCase):
    def test_as_told(self):
        keeper = Keeper(some_group())
        keeper.all_done([("call", "b", "a"), ("write", "d", "z", 2), ("go", "d")])
        self.assertEqual(keeper.log(), [("call", "b", "a"), ("write", "d", "z", 2), ("go", "d")])
        self.assertTrue(all(type(deed) is tuple for deed in keeper.log()))

    def test_pages_of_come_rise(self):
        keeper = Keeper(some_group())
        keeper.do(("come", "e", ("z", "b", "y")))
        keeper.all_done([("come", "f", ("c", "a"))])
        self.assertEqual(keeper.log(), [("come", "e", ("b", "y", "z")), ("come", "f", ("a", "c"))])

    def test_the_list_is_the_askers_own(self):
        keeper = Keeper(some_group())
        self.assertEqual(keeper.log(), [])
        keeper.log().append(("go", "a"))
        keeper.do(("go", "a"))
        keeper.log().clear()
        self.assertEqual(keeper.log(), [("go", "a")])
        keeper.back()
        self.assertEqual(keeper.log(), [])

    def test_it_leads_to_the_group(self):
        chance = Random(111)
        for group in [some_group(), *many_groups(150, 112)]:
            keeper = Keeper(group)
            stood = [stands(keeper)]
            for tries in range(1, 16):
                before = stands(keeper)
                deed = deed_by_chance(chance, keeper.group())
                try:
                    keeper.do(deed)
                    stood.append(stands(keeper))
                except HandError:
                    self.assertEqual(stands(keeper), before)
                self.assertEqual(keeper.tries(), (tries, tries))
                self.assertEqual(stands(kept(group, keeper.log())), stands(keeper))
            while len(stood) > 1:
                self.assertEqual(stands(keeper), stood.pop())
                keeper.back()
            self.assertEqual(stands(keeper), (group, []))
            refused(self, NoBack, {}, keeper.back)


class TestTwin(unittest.TestCase):
    def test_it_stands_alike(self):
        keeper = Keeper(some_group())
        keeper.all_done(DEEDS[:3])
        refused(self, NoDeed, {"at": 0}, keeper.do, None)
        twin = keeper.twin()
        self.assertIs(type(twin), Keeper)
        self.assertEqual(stands(twin), stands(keeper))
        self.assertEqual(twin.tries(), (2, 2))

    def test_each_goes_on_alone(self):
        keeper = Keeper(some_group())
        keeper.all_done(DEEDS[:3])
        twin = keeper.twin()
        before = stands(keeper)
        twin.do(DEEDS[3])
        twin.all_done(DEEDS[4:])
        self.assertEqual(stands(keeper), before)
        self.assertEqual((keeper.tries(), twin.tries()), ((1, 1), (3, 3)))
        behind = stands(twin)
        keeper.back()
        keeper.back()
        refused(self, NoPerson, {"name": "zed"}, keeper.do, ("go", "zed"))
        self.assertEqual(stands(twin), behind)
        self.assertEqual((keeper.tries(), twin.tries()), ((2, 2), (3, 3)))

    def test_it_goes_back_to_the_start(self):
        keeper = Keeper(some_group())
        keeper.all_done(DEEDS)
        twin = keeper.twin()
        for _ in DEEDS:
            twin.back()
        self.assertEqual(stands(twin), (some_group(), []))
        refused(self, NoBack, {}, twin.back)
        self.assertEqual(stands(keeper), stands(kept(some_group(), DEEDS)))

    def test_it_watches_alike(self):
        group = Group({"a": ["w"], "b": ["u"], "c": ["v"], "d": ["w"]})
        refused(self, Spoils, {"stuck": ("a", "d")}, Keeper(group).twin().do, ("call", "b", "c"))
        self.assertIsNone(Keeper(group, watch=False).twin().do(("call", "b", "c")))
        self.assertIsNone(Keeper(group, watch=False).twin().twin().do(("call", "b", "c")))


class TestTries(unittest.TestCase):
    def test_begun_and_ended_alike(self):
        keeper = Keeper(some_group())
        self.assertEqual(keeper.tries(), (0, 0))
        self.assertIs(type(keeper.tries()), tuple)
        many = 0
        for deed in [DEEDS[0], None, ("go", "zed"), DEEDS[1], ("call", "a", "b"), 3]:
            many += 1
            try:
                keeper.do(deed)
            except HandError:
                pass
            self.assertEqual(keeper.tries(), (many, many))
        for deeds in [[], None, [None], DEEDS[2:4], [("go", "b"), ("go", "b")]]:
            many += 1
            try:
                keeper.all_done(deeds)
            except HandError:
                pass
            self.assertEqual(keeper.tries(), (many, many))
        keeper.back()
        keeper.log()
        keeper.group()
        keeper.twin().do(("go", "a"))
        self.assertEqual(keeper.tries(), (many, many))


class TestKept(unittest.TestCase):
    def test_behind_a_log(self):
        for rows in (DEEDS, tuple(DEEDS), [], ()):
            keeper = kept(some_group(), rows)
            other = Keeper(some_group())
            other.all_done(rows)
            self.assertIs(type(keeper), Keeper)
            self.assertEqual(stands(keeper), stands(other))
            self.assertEqual(keeper.tries(), (1, 1))

    def test_its_deeds_can_be_taken_back(self):
        keeper = kept(some_group(), DEEDS)
        keeper.back()
        self.assertEqual(len(keeper.log()), len(DEEDS) - 1)

    def test_watch(self):
        group = Group({"a": ["w"], "b": ["u"], "c": ["v"], "d": ["w"]})
        log = [("call", "b", "c")]
        refused(self, Spoils, {"stuck": ("a", "d")}, kept, group, log)
        refused(self, Spoils, {"stuck": ("a", "d")}, kept, group, log, watch=True)
        keeper = kept(group=group, log=log, watch=False)
        self.assertEqual(stands(keeper), (called(group, "b", "c"), log))
        with self.assertRaises(TypeError):
            kept(group, log, False)

    def test_it_goes_on_watching_as_told(self):
        group = Group({"a": ["w"], "b": ["u"], "c": ["v"], "d": ["w"]})
        refused(self, Spoils, {"stuck": ("a", "d")}, kept(group, []).do, ("call", "b", "c"))
        self.assertIsNone(kept(group, [], watch=False).do(("call", "b", "c")))

    def test_refused(self):
        for thing in anything():
            if not isinstance(thing, (list, tuple)):
                refused(self, NoDeed, {"at": 0}, kept, some_group(), thing)
            refused(self, NoDeed, {"at": 1}, kept, some_group(), [("go", "zed"), thing])
        refused(self, NoPerson, {"name": "zed"}, kept, some_group(), [DEEDS[0], ("go", "zed")])

    def test_the_group_and_the_log_stay(self):
        group, log = some_group(), deepcopy(DEEDS)
        before = told_of(group)
        kept(group, log).back()
        self.assertEqual(told_of(group), before)
        self.assertEqual(log, DEEDS)


if __name__ == "__main__":
    unittest.main()
