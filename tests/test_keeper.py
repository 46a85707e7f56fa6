"""[10.2], [10.3]: what a keeper does, deed by deed, and what it refuses."""

import unittest

from evenhands.errors import (
    Barred, HandError, Idle, NoDeed, NoName, NoNumber, NoPage, NoPerson, Spoils, TooMany, Twice,
    Uneven)
from evenhands.groups import Group, is_name
from evenhands.keeper import Keeper
from tests.helper import anything, refused, told_of
from tests.reference import page_each

NO_LEAVES = [0, -1, 10, 10 ** 20, True, False, None, "", "1", [], [1], (), {}]


def some_group():
    return Group({"ann": ["x", "z"], "bob": ["y", "v"], "cid": ["x"], "dora": []},
                 leaves={"x": 2, "z": 3, "v": 4}, barred=[("cid", "ann"), ("bob", "dora")])


def six_people():
    return Group({person: [] for person in ("ann", "bob", "cid", "dora", "eva", "fay")})


def twelve_pages():
    return Group({"ann": list("abcdef"), "bob": list("ghijkl")})


class TestDeeds(unittest.TestCase):
    def behind(self, group, *deeds, watch=True):
        keeper = Keeper(group, watch=watch)
        for deed in deeds:
            self.assertIsNone(keeper.do(deed))
        self.assertIs(type(keeper.group()), Group)
        return keeper.group()

    def test_none_yet(self):
        self.assertEqual(Keeper(some_group()).group(), some_group())
        self.assertEqual(Keeper(group=some_group(), watch=False).group(), some_group())
        with self.assertRaises(TypeError):
            Keeper(some_group(), True)

    def test_call(self):
        group = self.behind(some_group(), ("call", "bob", "ann"))
        self.assertEqual(group, Group(
            {"ann": list("vxyz"), "bob": list("vxyz"), "cid": ["x"], "dora": []},
            leaves={"x": 2, "z": 3, "v": 4}, barred=[("ann", "cid"), ("bob", "dora")]))

    def test_write(self):
        group = self.behind(some_group(), ("write", "dora", "w", 9), ("write", "ann", "ann", 1))
        self.assertEqual(group, Group(
            {"ann": ["x", "z", "ann"], "bob": ["y", "v"], "cid": ["x"], "dora": ["w"]},
            leaves={"x": 2, "z": 3, "v": 4, "w": 9}, barred=[("ann", "cid"), ("bob", "dora")]))

    def test_come(self):
        group = self.behind(some_group(), ("come", "eva", ("z", "w", "a")))
        self.assertEqual(group, Group(
            {"ann": ["x", "z"], "bob": ["y", "v"], "cid": ["x"], "dora": [],
             "eva": ["a", "w", "z"]},
            leaves={"x": 2, "z": 3, "v": 4}, barred=[("ann", "cid"), ("bob", "dora")]))
        self.assertEqual(group.leaves("w"), 1)
        self.assertEqual(group.leaves("z"), 3)

    def test_come_with_nothing(self):
        group = self.behind(Group({"bob": ["x"]}), ("come", "ann", ()))
        self.assertEqual(group, Group({"ann": [], "bob": ["x"]}))

    def test_go(self):
        group = self.behind(some_group(), ("go", "ann"))
        self.assertEqual(group, Group({"bob": ["y", "v"], "cid": ["x"], "dora": []},
                                      leaves={"x": 2, "v": 4}, barred=[("bob", "dora")]))
        self.assertEqual(group.pages(), ["v", "x", "y"])
        group = self.behind(some_group(), ("go", "dora"))
        self.assertEqual(group.barred(), [("ann", "cid")])
        self.assertEqual(group.pages(), ["v", "x", "y", "z"])

    def test_go_to_the_last_one(self):
        group = self.behind(some_group(), ("go", "ann"), ("go", "cid"), ("go", "bob"))
        self.assertEqual(group, Group({"dora": []}))

    def test_a_page_that_is_no_more_has_one_leaf_again(self):
        group = self.behind(some_group(), ("go", "bob"), ("come", "bob", ("v",)))
        self.assertEqual(group.leaves("v"), 1)
        group = self.behind(some_group(), ("go", "bob"), ("write", "ann", "v", 2))
        self.assertEqual(group.leaves("v"), 2)

    def test_nobody_is_barred_from_one_who_comes_again(self):
        group = self.behind(some_group(), ("go", "ann"), ("come", "ann", ("x",)))
        self.assertEqual(group.barred(), [("bob", "dora")])
        group = self.behind(some_group(), ("go", "cid"), ("come", "cid", ("x",)))
        self.assertEqual(group.barred(), [("bob", "dora")])

    def test_the_sixth_person_and_the_twelfth_page(self):
        five = Group({person: [] for person in ("ann", "bob", "cid", "dora", "eva")})
        pages = tuple("lkjihgfedcba")
        group = self.behind(five, ("come", "fay", pages))
        self.assertEqual(group.held("fay"), tuple("abcdefghijkl"))
        group = self.behind(twelve_pages(), ("come", "fay", pages), ("come", "eva", ("a", "l")))
        self.assertEqual(len(group.pages()), 12)
        group = self.behind(six_people(), ("go", "bob"), ("come", "gus", ()))
        self.assertEqual(group.people(), ["ann", "cid", "dora", "eva", "fay", "gus"])

    def test_what_was_handed_in_stays(self):
        group = some_group()
        before = told_of(group)
        keeper = Keeper(group)
        deeds = [("call", "ann", "bob"), ("come", "eva", ("z", "a")), ("go", "cid"),
                 ("write", "bob", "w", 2)]
        for deed in list(deeds):
            keeper.do(deed)
        self.assertEqual(told_of(group), before)
        self.assertEqual(deeds[1], ("come", "eva", ("z", "a")))

    def test_by_name(self):
        keeper = Keeper(page_each(2))
        self.assertIsNone(keeper.do(deed=("call", "a", "b")))
        self.assertTrue(keeper.group().shared())


class TestRefused(unittest.TestCase):
    def refused(self, kind, fields, group, *deeds, watch=True):
        """Check that each of these is refused so, by both ways to do it, and changes nothing."""
        for deed in deeds:
            keeper = Keeper(group, watch=watch)
            refused(self, kind, fields, keeper.do, deed)
            refused(self, kind, fields, keeper.all_done, [deed])
            self.assertEqual(keeper.group(), group)
            self.assertEqual(keeper.log(), [])
            self.assertEqual(keeper.tries(), (2, 2))

    def test_call_no_person(self):
        for thing in [*anything(), "x", "eva"]:
            if thing != "ann":
                for watch in (True, False):
                    self.refused(NoPerson, {"name": thing}, some_group(), ("call", thing, "ann"),
                                 ("call", "ann", thing), ("call", thing, "?"), watch=watch)

    def test_call_barred_idle_uneven(self):
        for watch in (True, False):
            self.refused(Barred, {}, some_group(), ("call", "ann", "cid"), ("call", "cid", "ann"),
                         ("call", "ann", "ann"), ("call", "bob", "dora"), watch=watch)
            self.refused(Idle, {}, Group({"a": ["x"], "b": ["x"]}), ("call", "a", "b"),
                         watch=watch)
            self.refused(Uneven, {"gives": 2, "gets": 5}, some_group(), ("call", "cid", "bob"),
                         watch=watch)
            self.refused(Uneven, {"gives": 5, "gets": 0}, some_group(), ("call", "ann", "dora"),
                         watch=watch)

    def test_call_spoils(self):
        group = Group({"a": ["w"], "b": ["u"], "c": ["v"], "d": ["w"]})
        self.refused(Spoils, {"stuck": ("a", "d")}, group, ("call", "b", "c"), ("call", "c", "b"))
        self.refused(Barred, {}, Group({"a": ["w"], "b": ["u"]}), ("call", "b", "b"))

    def test_write_no_person_then_no_page(self):
        for thing in anything():
            self.refused(NoPerson, {"name": thing}, some_group(), ("write", thing, "w", 1),
                         ("write", thing, "W", 0))
            if not is_name(thing):
                self.refused(NoPage, {"name": thing}, some_group(), ("write", "ann", thing, 1),
                             ("write", "ann", thing, 0))
                self.refused(NoPage, {"name": thing}, twelve_pages(), ("write", "ann", thing, []))

    def test_write_twice_then_no_number_then_too_many(self):
        self.refused(Twice, {"name": "y"}, some_group(), ("write", "ann", "y", 1),
                     ("write", "bob", "y", 10))
        self.refused(Twice, {"name": "l"}, twelve_pages(), ("write", "ann", "l", 1))
        for thing in NO_LEAVES:
            self.refused(NoNumber, {}, some_group(), ("write", "ann", "w", thing))
            self.refused(NoNumber, {}, twelve_pages(), ("write", "ann", "w", thing))
        self.refused(TooMany, {}, twelve_pages(), ("write", "ann", "w", 1))

    def test_come_no_name(self):
        for thing in anything():
            if not is_name(thing):
                self.refused(NoName, {}, some_group(), ("come", thing, ()), ("come", thing, []),
                             ("come", thing, ("x", "x")))
                self.refused(NoName, {}, six_people(), ("come", thing, ("?",)))

    def test_come_twice(self):
        for person in some_group().people():
            self.refused(Twice, {"name": person}, some_group(), ("come", person, ()),
                         ("come", person, []), ("come", person, ("x", "?")))
        self.refused(Twice, {"name": "ann"}, six_people(), ("come", "ann", ("x", "x")))

    def test_come_no_tuple(self):
        for thing in [*anything(), [], ["x"], ["x", "y"], "x", {"x": 1}]:
            if not isinstance(thing, tuple):
                self.refused(NoPage, {"name": None}, some_group(), ("come", "eva", thing))
                self.refused(NoPage, {"name": None}, six_people(), ("come", "gus", thing))

    def test_come_no_page_ahead_of_any_twice(self):
        for thing in anything():
            if not is_name(thing):
                self.refused(NoPage, {"name": thing}, some_group(), ("come", "eva", (thing,)),
                             ("come", "eva", ("x", thing, "?")), ("come", "eva", ("x", "x", thing)),
                             ("come", "eva", (thing, thing)))
                self.refused(NoPage, {"name": thing}, six_people(), ("come", "gus", ("x", thing)))

    def test_come_twice_a_page(self):
        self.refused(Twice, {"name": "x"}, some_group(), ("come", "eva", ("x", "x")),
                     ("come", "eva", ("x", "y", "x", "y")), ("come", "eva", ("w", "x", "x", "w")))
        self.refused(Twice, {"name": "w"}, some_group(), ("come", "eva", ("x", "w", "y", "w", "x")))
        self.refused(Twice, {"name": "x"}, six_people(), ("come", "gus", ("x", "x")))
        self.refused(Twice, {"name": "m"}, twelve_pages(), ("come", "gus", ("m", "m")))

    def test_come_too_many(self):
        self.refused(TooMany, {}, six_people(), ("come", "gus", ()), ("come", "gus", ("x",)))
        self.refused(TooMany, {}, twelve_pages(), ("come", "gus", ("m",)),
                     ("come", "gus", ("a", "m", "l")))
        self.refused(TooMany, {}, Group({"ann": ["x"]}), ("come", "bob", tuple("abcdefghijkl")))

    def test_go(self):
        for thing in [*anything(), "x"]:
            self.refused(NoPerson, {"name": thing}, some_group(), ("go", thing))
            self.refused(NoPerson, {"name": thing}, Group({"bob": []}), ("go", thing))
        self.refused(TooMany, {}, Group({"ann": ["x"]}), ("go", "ann"))

    def test_no_deed(self):
        things = [
            *anything(), "call", "back", ("call",), ("call", "ann"), ("call", "ann", "bob", "cid"),
            ["call", "ann", "bob"], ("Call", "ann", "bob"), ("calls", "ann", "bob"),
            ("write", "ann", "w"), ("write", "ann", "w", 1, 1), ["write", "ann", "w", 1],
            ("write",), ("come", "eva"), ("come", "eva", "x", "y"), ("come", "eva", ("x",), ()),
            ["come", "eva", ()], ("come",), ("go",), ("go", "ann", "bob"), ["go", "ann"],
            ("back",), ("", "ann"), (" go", "ann"), ("go ", "ann"), (None, "ann"), (1, "ann"),
            (True, "ann", "bob"), (["go"], "ann"), (("go",), "ann"), ({}, "ann"), ("ann", "go"),
            (("call", "ann", "bob"),), (("go", "ann"),),
        ]
        for thing in things:
            for watch in (True, False):
                self.refused(NoDeed, {"at": 0}, some_group(), thing, watch=watch)

    def test_the_keeper_goes_on_behind(self):
        keeper = Keeper(some_group())
        for deed in [("call", "ann", "zed"), ("go", "zed"), None, ("come", "ann", ()),
                     ("write", "ann", "w", 0)]:
            with self.assertRaises(HandError):
                keeper.do(deed)
        keeper.do(("call", "ann", "bob"))
        self.assertEqual(keeper.log(), [("call", "ann", "bob")])


if __name__ == "__main__":
    unittest.main()
