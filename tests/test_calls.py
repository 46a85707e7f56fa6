"""[2.1], [0.2] (a): gain, called, may, behind."""

import unittest
from itertools import permutations, product

from evenhands.calls import behind, called, gain, may
from evenhands.errors import Barred, HandError, Idle, NoCall, NoPerson, Uneven
from evenhands.groups import Group
from tests.helper import PEOPLE, anything, refused, some_groups, told_of


def a_group():
    """ann and bob are even, ann and cid uneven, cid and dora idle, ann and eve barred."""
    return Group({"ann": ["x", "y"], "bob": ["x", "z", "w"], "cid": ["v"], "dora": ["v"],
                  "eve": ["v", "w"]},
                 leaves={"y": 3, "z": 2, "v": 2}, barred=[("eve", "ann"), ("cid", "bob")])


def four():
    """Four people with a page each, who share all in four calls."""
    return Group({"a": ["x"], "b": ["y"], "c": ["z"], "d": ["w"]})


class TestGain(unittest.TestCase):
    def test_how_many_leaves_each_would_get(self):
        group = a_group()
        self.assertEqual(gain(group, "ann", "bob"), (3, 3))
        self.assertEqual(gain(group, "ann", "cid"), (2, 4))
        self.assertEqual(gain(group, "cid", "ann"), (4, 2))
        self.assertEqual(gain(group, "cid", "dora"), (0, 0))
        self.assertEqual(gain(group, "eve", "cid"), (0, 1))
        self.assertEqual(gain(group, "cid", "eve"), (1, 0))
        self.assertIs(type(gain(group, "ann", "bob")), tuple)

    def test_of_many_groups(self):
        for group in some_groups():
            for one, other in permutations(PEOPLE, 2):
                gets = set(group.held(other)) - set(group.held(one))
                gives = set(group.held(one)) - set(group.held(other))
                expected = (sum(map(group.leaves, gets)), sum(map(group.leaves, gives)))
                self.assertEqual(gain(group, one, other), expected)

    def test_by_name(self):
        self.assertEqual(gain(other="cid", group=a_group(), one="ann"), (2, 4))


class TestRefused(unittest.TestCase):
    """What gain and called are refused with alike, and in which order."""

    def both(self, kind, fields, one, other):
        for deed in (gain, called):
            group = a_group()
            refused(self, kind, fields, deed, group, one, other)
            self.assertEqual(told_of(group), told_of(a_group()))
        self.assertIs(may(a_group(), one, other), False)

    def test_no_person_of_one(self):
        for thing in anything():
            self.both(NoPerson, {"name": thing}, thing, "bob")
            self.both(NoPerson, {"name": thing}, thing, thing)
            self.both(NoPerson, {"name": thing}, thing, "zoe")

    def test_no_person_of_other(self):
        for thing in anything():
            self.both(NoPerson, {"name": thing}, "ann", thing)

    def test_the_thing_itself(self):
        thing = ["ann"]
        for deed in (gain, called):
            for pair in ((thing, "bob"), ("bob", thing), (thing, ["bob"])):
                with self.assertRaises(NoPerson) as caught:
                    deed(a_group(), *pair)
                self.assertIs(caught.exception.name, thing)

    def test_one_ahead_of_other(self):
        self.both(NoPerson, {"name": "zed"}, "zed", "yan")
        self.both(NoPerson, {"name": "yan"}, "yan", "zed")

    def test_barred_either_way_about(self):
        for one, other in (("ann", "eve"), ("eve", "ann"), ("bob", "cid"), ("cid", "bob")):
            self.both(Barred, {}, one, other)

    def test_one_person_twice(self):
        for person in a_group().people():
            self.both(Barred, {}, person, person)
        refused(self, Barred, {}, called, Group({"ann": []}), "ann", "ann")

    def test_barred_ahead_of_idle_and_uneven(self):
        group = Group({"ann": ["x"], "bob": ["x"], "cid": ["x", "y"]},
                      barred=[("ann", "bob"), ("cid", "ann")])
        refused(self, Barred, {}, called, group, "bob", "ann")
        refused(self, Barred, {}, called, group, "ann", "cid")

    def test_gain_is_never_idle_or_uneven(self):
        for group in some_groups():
            for one, other in permutations(PEOPLE, 2):
                gain(group, one, other)


class TestCalled(unittest.TestCase):
    def test_both_hold_all_that_both_held(self):
        for one, other in (("ann", "bob"), ("bob", "ann")):
            group = called(a_group(), one, other)
            self.assertEqual(group, Group(
                {"ann": ["w", "x", "y", "z"], "bob": ["w", "x", "y", "z"], "cid": ["v"],
                 "dora": ["v"], "eve": ["v", "w"]},
                leaves={"y": 3, "z": 2, "v": 2}, barred=[("ann", "eve"), ("bob", "cid")]))

    def test_leaves_and_bars_and_others_stay(self):
        ahead = a_group()
        group = called(ahead, "ann", "bob")
        self.assertEqual(group.people(), ahead.people())
        self.assertEqual(group.pages(), ahead.pages())
        self.assertEqual([group.leaves(page) for page in group.pages()], [2, 1, 1, 3, 2])
        self.assertEqual(group.barred(), [("ann", "eve"), ("bob", "cid")])
        for person in ("cid", "dora", "eve"):
            self.assertEqual(group.held(person), ahead.held(person))

    def test_the_group_that_was_asked_stays(self):
        group = a_group()
        for deed in (gain, called, may):
            deed(group, "ann", "bob")
            self.assertEqual(told_of(group), told_of(a_group()))
            self.assertEqual(group, a_group())

    def test_the_group_behind_hangs_on_nothing(self):
        group = a_group()
        after = called(group, "ann", "bob")
        after.barred().clear()
        after.people().clear()
        self.assertEqual(told_of(group), told_of(a_group()))
        self.assertEqual(told_of(after), told_of(called(a_group(), "ann", "bob")))

    def test_idle(self):
        refused(self, Idle, {}, called, a_group(), "cid", "dora")
        refused(self, Idle, {}, called, a_group(), "dora", "cid")
        refused(self, Idle, {}, called, Group({"ann": [], "bob": []}), "ann", "bob")
        refused(self, Idle, {}, called, called(a_group(), "ann", "bob"), "ann", "bob")

    def test_uneven_gives_and_gets(self):
        refused(self, Uneven, {"gives": 4, "gets": 2}, called, a_group(), "ann", "cid")
        refused(self, Uneven, {"gives": 2, "gets": 4}, called, a_group(), "cid", "ann")

    def test_one_gets_nothing(self):
        refused(self, Uneven, {"gives": 1, "gets": 0}, called, a_group(), "eve", "cid")
        refused(self, Uneven, {"gives": 0, "gets": 1}, called, a_group(), "cid", "eve")

    def test_as_many_pages_of_unlike_leaves(self):
        group = Group({"ann": ["x"], "bob": ["y"]}, leaves={"x": 2})
        refused(self, Uneven, {"gives": 2, "gets": 1}, called, group, "ann", "bob")

    def test_by_name(self):
        group = called(other="bob", one="ann", group=a_group())
        self.assertEqual(group, called(a_group(), "ann", "bob"))

    def test_just_the_even_calls_of_many_groups(self):
        for group in some_groups():
            ahead = told_of(group)
            for one, other in permutations(PEOPLE, 2):
                ones, others = group.held(one), group.held(other)
                even = ones != others and group.weight(one) == group.weight(other)
                self.assertIs(may(group, one, other), even)
                if not even:
                    kind = Idle if ones == others else Uneven
                    with self.assertRaises(kind):
                        called(group, one, other)
                    continue
                after = called(group, one, other)
                for person in PEOPLE:
                    held = tuple(sorted({*ones, *others}))
                    if person not in (one, other):
                        held = group.held(person)
                    self.assertEqual(after.held(person), held)
            self.assertEqual(told_of(group), ahead)


class TestMay(unittest.TestCase):
    def test_each_pair(self):
        group = a_group()
        done = [pair for pair in product(group.people(), repeat=2) if may(group, *pair)]
        self.assertEqual(done, [("ann", "bob"), ("bob", "ann")])
        self.assertIs(may(group, "ann", "bob"), True)
        self.assertIs(may(group, "ann", "cid"), False)

    def test_barred(self):
        held = {"ann": ["x"], "bob": ["y"]}
        self.assertIs(may(Group(held), "ann", "bob"), True)
        self.assertIs(may(Group(held, barred=[("bob", "ann")]), "ann", "bob"), False)
        self.assertIs(may(Group(held, barred=[("ann", "bob")]), "ann", "bob"), False)

    def test_of_anything(self):
        group = a_group()
        for one in [*anything(), "ann"]:
            for other in anything():
                self.assertIs(may(group, one, other), False)
                self.assertIs(may(group, other, one), False)
        self.assertEqual(told_of(group), told_of(a_group()))

    def test_by_name(self):
        self.assertIs(may(one="bob", other="ann", group=a_group()), True)


class TestBehind(unittest.TestCase):
    CALLS = [("a", "b"), ("d", "c"), ("a", "c"), ("d", "b")]

    def test_no_calls(self):
        self.assertEqual(behind(a_group(), []), a_group())
        self.assertEqual(behind(a_group(), ()), a_group())
        self.assertEqual(behind(Group({"ann": []}), []), Group({"ann": []}))

    def test_a_list_and_a_tuple(self):
        shared = Group({person: ["x", "y", "z", "w"] for person in "abcd"})
        self.assertEqual(behind(four(), self.CALLS), shared)
        self.assertEqual(behind(four(), tuple(self.CALLS)), shared)
        self.assertEqual(behind(calls=self.CALLS, group=four()), shared)

    def test_call_by_call(self):
        group = four()
        for at, call in enumerate(self.CALLS):
            self.assertEqual(behind(four(), self.CALLS[:at]), group)
            group = called(group, *call)

    def test_leaves_and_bars_stay(self):
        group = Group({"a": ["x"], "b": ["y"], "c": ["z"], "d": ["w"]},
                      leaves=[(page, 2) for page in "wxyz"], barred=[("b", "d")])
        after = behind(group, [("a", "b"), ("c", "d"), ("a", "c")])
        self.assertEqual(after, Group(
            {"a": list("wxyz"), "b": ["x", "y"], "c": list("wxyz"), "d": ["w", "z"]},
            leaves=[(page, 2) for page in "wxyz"], barred=[("d", "b")]))

    def test_nothing_is_changed(self):
        group = four()
        calls = [list(self.CALLS), tuple(self.CALLS)]
        for row in calls:
            behind(group, row)
        refused(self, NoCall, {"at": 1}, behind, group, [self.CALLS[0]] * 2)
        self.assertEqual(calls, [self.CALLS, tuple(self.CALLS)])
        self.assertEqual(told_of(group), told_of(four()))

    def test_the_first_that_would_be_refused_by_then(self):
        for calls, at in (
                ([("a", "b"), ("a", "b")], 1), ([("a", "b"), ("b", "a")], 1),
                ([("a", "b"), ("a", "c")], 1), ([("a", "b"), ("c", "d"), ("a", "b")], 2),
                ([*self.CALLS, ("a", "d")], 4), ([("a", "a")], 0), ([("a", "e")], 0),
                ([("a", "b"), ("e", "e"), ("a", "a")], 1), ([("a", "b"), ("c", "d"), ("e", "c")], 2)):
            refused(self, NoCall, {"at": at}, behind, four(), calls)
            refused(self, NoCall, {"at": at}, behind, four(), tuple(calls))

    def test_what_would_be_let_by_only_then(self):
        group = Group({"a": ["x"], "b": ["y"], "c": ["z", "w"]})
        self.assertEqual(behind(group, [("a", "b"), ("c", "a")]).holders(), ["a", "c"])
        refused(self, NoCall, {"at": 0}, behind, group, [("c", "a"), ("a", "b")])

    def test_barred(self):
        group = Group({"a": ["x"], "b": ["y"], "c": ["z"]}, barred=[("a", "b")])
        refused(self, NoCall, {"at": 0}, behind, group, [("b", "a")])
        refused(self, NoCall, {"at": 1}, behind, group, [("b", "c"), ("b", "a")])

    def test_what_is_no_call(self):
        for thing in [*anything(), "ab", ["a", "b"], ("a",), ("a", "b", "c"), {"a": 1, "b": 2}]:
            refused(self, NoCall, {"at": 0}, behind, four(), [thing])
            refused(self, NoCall, {"at": 2}, behind, four(), [("a", "b"), ("c", "d"), thing])
            refused(self, NoCall, {"at": 1}, behind, four(), (("a", "b"), thing, ("c", "d")))

    def test_calls_with_anything_in_them(self):
        for thing in anything():
            for call in (("a", thing), (thing, "a"), (thing, thing)):
                refused(self, NoCall, {"at": 1}, behind, four(), [("a", "b"), call])

    def test_no_list(self):
        for thing in anything():
            if thing not in ([], ()):
                refused(self, NoCall, {"at": 0}, behind, four(), thing)
        for thing in ("", "ab", {}, {("a", "b"): 1}, None, 0, True):
            refused(self, NoCall, {"at": 0}, behind, four(), thing)

    def test_a_single_call_is_no_list_of_calls(self):
        refused(self, NoCall, {"at": 0}, behind, four(), ("a", "b"))


class TestByRisingWeights(unittest.TestCase):
    """[0.2] (a): a row of even calls comes to the same by rising weights."""

    def rows(self, group, many):
        if many == 0:
            yield []
            return
        for one, other in permutations(group.people(), 2):
            if one < other and may(group, one, other):
                for row in self.rows(called(group, one, other), many - 1):
                    yield [(group.weight(one), (one, other)), *row]

    def test_the_same_call_by_call_even(self):
        group = Group({"a": ["x"], "b": ["y"], "c": ["z"], "d": ["w"], "e": ["v", "u"]})
        seen = 0
        for many in range(1, 5):
            for row in self.rows(group, many):
                seen += 1
                calls = [call for _, call in row]
                by_weights = [call for _, call in sorted(row)]
                self.assertEqual(behind(group, by_weights), behind(group, calls))
        self.assertGreater(seen, 100)


class TestErrors(unittest.TestCase):
    def test_all_are_hand_errors(self):
        for pair in (("zed", "ann"), ("ann", "ann"), ("cid", "dora"), ("ann", "cid")):
            with self.assertRaises(HandError):
                called(a_group(), *pair)


if __name__ == "__main__":
    unittest.main()
