"""[1.2], [0.3]: what a Group tells."""

import unittest
from itertools import permutations

from evenhands.errors import NoPage, NoPerson
from evenhands.groups import Group
from tests.helper import anything, refused, some_groups, told_of


def a_group():
    return Group({"cid": ["z", "x"], "ann": ("y", "x", "z"), "bob": [], "dora": ["y"]},
                 leaves={"z": 9, "x": 2}, barred=[("dora", "ann"), ("bob", "ann")])


class TestTold(unittest.TestCase):
    def test_people(self):
        self.assertEqual(a_group().people(), ["ann", "bob", "cid", "dora"])
        self.assertEqual(Group({"b": [], "aa": [], "a": []}).people(), ["a", "aa", "b"])

    def test_pages(self):
        self.assertEqual(a_group().pages(), ["x", "y", "z"])
        self.assertEqual(Group({"ann": ["b", "a"], "bob": ["aa", "b"]}).pages(), ["a", "aa", "b"])
        self.assertEqual(Group({"ann": []}).pages(), [])

    def test_held(self):
        group = a_group()
        self.assertEqual(group.held("ann"), ("x", "y", "z"))
        self.assertEqual(group.held("cid"), ("x", "z"))
        self.assertEqual(group.held("bob"), ())
        self.assertEqual(group.held(person="dora"), ("y",))
        self.assertIs(type(group.held("ann")), tuple)

    def test_weight(self):
        group = a_group()
        weights = [group.weight(person) for person in group.people()]
        self.assertEqual(weights, [12, 0, 11, 1])
        self.assertEqual(group.weight(person="cid"), 11)

    def test_leaves(self):
        group = a_group()
        self.assertEqual([group.leaves(page) for page in group.pages()], [2, 1, 9])
        self.assertEqual(group.leaves(page="y"), 1)

    def test_barred(self):
        self.assertEqual(a_group().barred(), [("ann", "bob"), ("ann", "dora")])
        self.assertIs(type(a_group().barred()[0]), tuple)

    def test_state(self):
        state = a_group().state()
        self.assertEqual(state, (("x", "y", "z"), (), ("x", "z"), ("y",)))
        self.assertIs(type(state), tuple)
        self.assertEqual([type(pages) for pages in state], [tuple] * 4)

    def test_holders(self):
        self.assertEqual(a_group().holders(), ["ann"])
        self.assertEqual(Group({"ann": ["x"], "bob": ["y"]}).holders(), [])
        group = Group({"cid": ["y", "x"], "bob": ["x"], "ann": ["x", "y"]})
        self.assertEqual(group.holders(), ["ann", "cid"])

    def test_all_hold_all_where_there_are_no_pages(self):
        group = Group({"bob": [], "ann": []})
        self.assertEqual(group.holders(), ["ann", "bob"])
        self.assertIs(group.shared(), True)

    def test_shared(self):
        self.assertIs(a_group().shared(), False)
        self.assertIs(Group({"ann": ["x"], "bob": ["y"]}).shared(), False)
        self.assertIs(Group({"ann": ["x", "y"], "bob": ["x"]}).shared(), False)
        self.assertIs(Group({"ann": ["x", "y"], "bob": ["y", "x"]}).shared(), True)
        self.assertIs(Group({"ann": ["x"]}).shared(), True)

    def test_as_many_leaves_are_not_all(self):
        group = Group({"ann": ["x"], "bob": ["y"]}, leaves={"x": 3, "y": 3})
        self.assertEqual((group.holders(), group.shared()), ([], False))

    def test_len(self):
        self.assertEqual(len(a_group()), 4)
        self.assertEqual(len(Group({"ann": ["x", "y", "z"]})), 1)
        self.assertEqual(len(Group({letter: [] for letter in "abcdef"})), 6)

    def test_of_many_groups(self):
        for group in some_groups():
            held = {person: set(group.held(person)) for person in group.people()}
            every = set().union(*held.values())
            self.assertEqual(group.pages(), sorted(every))
            self.assertEqual(group.state(), tuple(tuple(sorted(held[one])) for one in sorted(held)))
            self.assertEqual(group.holders(), sorted(one for one in held if held[one] == every))
            self.assertIs(group.shared(), all(some == every for some in held.values()))
            for one in held:
                self.assertEqual(group.weight(one), sum(map(group.leaves, held[one])))


class TestRefused(unittest.TestCase):
    def test_no_person(self):
        group = a_group()
        for thing in [*anything(), "x", "an", "eve"]:
            refused(self, NoPerson, {"name": thing}, group.held, thing)
            refused(self, NoPerson, {"name": thing}, group.weight, thing)

    def test_no_page(self):
        group = a_group()
        for thing in [*anything(), "ann", "xy", "w"]:
            refused(self, NoPage, {"name": thing}, group.leaves, thing)
        refused(self, NoPage, {"name": "x"}, Group({"ann": []}).leaves, "x")

    def test_the_thing_itself(self):
        group = a_group()
        for kind, deed in ((NoPerson, group.held), (NoPerson, group.weight), (NoPage, group.leaves)):
            for thing in ([1], {"ann": 1}, ("ann", ["x"])):
                with self.assertRaises(kind) as caught:
                    deed(thing)
                self.assertIs(caught.exception.name, thing)

    def test_what_is_refused_changes_nothing(self):
        group = a_group()
        ahead = told_of(group)
        thing = ["ann"]
        refused(self, NoPerson, {"name": ["ann"]}, group.held, thing)
        refused(self, NoPage, {"name": ["ann"]}, group.leaves, thing)
        self.assertEqual((thing, told_of(group)), (["ann"], ahead))


class TestEqual(unittest.TestCase):
    def alike(self, one, other):
        self.assertIs(one == other, True)
        self.assertIs(other == one, True)
        self.assertIs(one != other, False)

    def unlike(self, one, other):
        self.assertIs(one == other, False)
        self.assertIs(other == one, False)
        self.assertIs(one != other, True)

    def test_however_it_was_handed_in(self):
        rows = [("ann", ["x", "y"]), ("bob", ["z"]), ("cid", ["y", "z", "x"])]
        group = Group(dict(rows), leaves={"x": 2, "z": 3}, barred=[("ann", "bob"), ("bob", "cid")])
        for order in permutations(rows):
            held = {person: tuple(reversed(pages)) for person, pages in order}
            for leaves in ({"z": 3, "x": 2}, {"z": 3, "y": 1, "x": 2}, [("z", 3), ("x", 2)],
                           (("x", 2), ("y", 1), ("z", 3))):
                for barred in ([("cid", "bob"), ("bob", "ann")],
                               (("bob", "ann"), ("ann", "bob"), ("bob", "cid"))):
                    other = Group(held, leaves=leaves, barred=barred)
                    self.alike(group, other)
                    self.assertEqual(told_of(other), told_of(group))

    def test_leaves_of_one_told_or_not(self):
        held = {"ann": ["x"], "bob": ["y"]}
        self.alike(Group(held), Group(held, leaves={"x": 1}))
        self.alike(Group(held, leaves=[]), Group(held, leaves=[("y", 1), ("x", 1)], barred=()))

    def test_itself(self):
        group = a_group()
        self.alike(group, group)
        self.alike(group, a_group())

    def test_one_thing_otherwise(self):
        held = {"ann": ["x", "y"], "bob": ["y"], "cid": []}
        group = Group(held, leaves={"x": 2}, barred=[("ann", "bob")])
        others = [
            Group({"ann": ["x", "y"], "bob": ["y"], "dan": []},
                  leaves={"x": 2}, barred=[("ann", "bob")]),
            Group({"ann": ["x", "y"], "bob": ["y"]}, leaves={"x": 2}, barred=[("ann", "bob")]),
            Group({**held, "dan": []}, leaves={"x": 2}, barred=[("ann", "bob")]),
            Group({**held, "cid": ["y"]}, leaves={"x": 2}, barred=[("ann", "bob")]),
            Group({**held, "bob": ["x"]}, leaves={"x": 2}, barred=[("ann", "bob")]),
            Group({"ann": ["x", "z"], "bob": ["z"], "cid": []},
                  leaves={"x": 2}, barred=[("ann", "bob")]),
            Group({"ann": ["y"], "bob": ["x", "y"], "cid": []},
                  leaves={"x": 2}, barred=[("ann", "bob")]),
            Group(held, leaves={"x": 3}, barred=[("ann", "bob")]),
            Group(held, leaves={"y": 2}, barred=[("ann", "bob")]),
            Group(held, leaves={"x": 2, "y": 2}, barred=[("ann", "bob")]),
            Group(held, barred=[("ann", "bob")]),
            Group(held, leaves={"x": 2}),
            Group(held, leaves={"x": 2}, barred=[("ann", "cid")]),
            Group(held, leaves={"x": 2}, barred=[("ann", "bob"), ("ann", "cid")]),
        ]
        for at, other in enumerate(others):
            with self.subTest(at):
                self.unlike(group, other)

    def test_beside_anything_else(self):
        group = a_group()
        for thing in [*anything(), group.state(), group.people(), len(group), "ann", object()]:
            self.unlike(group, thing)


class TestOnesOwn(unittest.TestCase):
    DEEDS = ("people", "pages", "barred", "holders", "state", "shared")

    def handed(self):
        held = {"cid": ["z", "x"], "ann": ["y", "x", "z"], "bob": []}
        leaves = {"z": 9, "x": 2}
        rows = [("z", 9), ("x", 2)]
        barred = [("cid", "ann"), ("bob", "ann")]
        return held, leaves, rows, barred

    def test_what_was_handed_in_is_changed_afterwards(self):
        for as_dict in (True, False):
            # Asked only afterwards, too, so that nothing is worked out late.
            for asked_ahead in (True, False):
                held, leaves, rows, barred = self.handed()
                group = Group(held, leaves=leaves if as_dict else rows, barred=barred)
                if asked_ahead:
                    told_of(group)
                held["ann"].append("w")
                held["cid"].clear()
                held["bob"] = ["x"]
                held["dan"] = []
                del held["ann"]
                leaves["x"] = 7
                leaves.clear()
                rows[0] = ("y", 4)
                rows.append(("z", 1))
                barred.append(("bob", "cid"))
                del barred[0]
                fresh, leaves, rows, barred = self.handed()
                self.assertEqual(told_of(group), told_of(Group(fresh, leaves=rows, barred=barred)))

    def test_a_told_list_is_changed(self):
        for deed in ("people", "pages", "barred", "holders"):
            for change in (list.clear, list.reverse, lambda row: row.append("w")):
                group = a_group()
                change(getattr(group, deed)())
                self.assertEqual(told_of(group), told_of(a_group()), deed)
                self.assertEqual(group, a_group(), deed)

    def test_told_lists_are_new_each_time(self):
        group = a_group()
        for deed in ("people", "pages", "barred", "holders"):
            one = getattr(group, deed)()
            self.assertIs(type(one), list)
            self.assertIsNot(one, getattr(group, deed)())

    def test_in_whatever_order_it_is_asked(self):
        ahead = {deed: getattr(a_group(), deed)() for deed in self.DEEDS}
        for order in permutations(self.DEEDS, 3):
            group = a_group()
            for deed in order:
                told = getattr(group, deed)()
                self.assertEqual(told, ahead[deed], order)
                if isinstance(told, list):
                    told.clear()
            for deed in self.DEEDS:
                self.assertEqual(getattr(group, deed)(), ahead[deed], order)

    def test_two_groups_of_the_same_things_go_alone(self):
        held, leaves, _, barred = self.handed()
        one = Group(held, leaves=leaves, barred=barred)
        other = Group(held, leaves=leaves, barred=barred)
        one.people().clear()
        one.barred().clear()
        self.assertEqual(one, other)
        self.assertEqual(told_of(one), told_of(other))


if __name__ == "__main__":
    unittest.main()
