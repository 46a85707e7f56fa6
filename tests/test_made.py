"""[1.1], [0.3]: names, and of what a Group is made."""

import copy
import unittest

from evenhands.errors import BadGroup
from evenhands.groups import Group, is_name
from tests.helper import anything, refused

ABC = "abcdefghijklmnopqrstuvwxyz"
HELD = {"ann": ["x", "y"], "bob": ["z"], "cid": []}


class TestIsName(unittest.TestCase):
    def test_one_to_six_small_letters(self):
        for many in range(1, 7):
            for letter in ABC:
                self.assertIs(is_name(letter * many), True)
        for name in ("ann", "abcdef", "uvwxyz", "ghijkl", "mnopqr"):
            self.assertIs(is_name(name), True)

    def test_none_and_seven(self):
        for text in ("", "abcdefg", "a" * 7, "a" * 26, ABC):
            self.assertIs(is_name(text), False)

    def test_a_single_other_sign_anywhere(self):
        signs = [chr(code) for code in range(32, 127) if chr(code) not in ABC] + ["\n"]
        for sign in signs:
            for text in (sign, sign + "ab", "a" + sign + "b", "ab" + sign):
                self.assertIs(is_name(text), False, text)

    def test_other_kinds(self):
        for thing in anything():
            self.assertIs(is_name(thing), thing == "zed", thing)
        for thing in (["a"], ("a",), {"a": 1}, ["a", "b"], ("a", "b", "c")):
            self.assertIs(is_name(thing), False, thing)

    def test_by_name(self):
        self.assertIs(is_name(thing="ann"), True)


class TestHeld(unittest.TestCase):
    def bad(self, held, **more):
        refused(self, BadGroup, {"at": 0}, Group, held, **more)

    def test_one_to_six_people(self):
        for many in range(1, 7):
            held = {letter: ["x"] for letter in ABC[:many]}
            self.assertEqual(Group(held).people(), list(ABC[:many]))

    def test_no_people_and_seven(self):
        self.bad({})
        self.bad({letter: [] for letter in ABC[:7]})

    def test_twelve_pages_and_thirteen(self):
        self.assertEqual(Group({"ann": list(ABC[:12])}).pages(), list(ABC[:12]))
        self.bad({"ann": list(ABC[:13])})
        self.bad({"ann": list(ABC[:7]), "bob": list(ABC[6:13])})
        for at in range(12):
            group = Group({"ann": list(ABC[:at]), "bob": list(ABC[at:12])})
            self.assertEqual(group.pages(), list(ABC[:12]))

    def test_twelve_pages_held_by_all(self):
        group = Group({letter: list(ABC[:12]) for letter in ABC[:6]})
        self.assertEqual(group.pages(), list(ABC[:12]))

    def test_no_pages_at_all(self):
        self.assertEqual(Group({"ann": []}).pages(), [])
        self.assertEqual(Group({"ann": (), "bob": []}).state(), ((), ()))

    def test_longest_names(self):
        self.assertEqual(Group({"abcdef": ["uvwxyz"]}).held("abcdef"), ("uvwxyz",))

    def test_tuples_in_place_of_lists(self):
        self.assertEqual(Group({"ann": ("x", "y"), "bob": ("z",), "cid": ()}), Group(HELD))

    def test_no_dict(self):
        for thing in anything():
            if not isinstance(thing, dict) or thing != {"ann": []}:
                self.bad(thing)
        self.bad([("ann", ["x"])])
        self.bad((("ann", ("x",)),))
        self.bad("ann")

    def test_people_that_are_no_names(self):
        for name in ("", "Ann", "abcdefg", "a b", "a1", "ann\n", 1, None, True, ("ann",), ()):
            self.bad({name: []})
            self.bad({"ann": ["x"], name: ["x"]})

    def test_pages_that_are_no_lists(self):
        for pages in ("x", "", None, 0, 1, True, {}, {"x": 1}, {"x": "x"}):
            self.bad({"ann": pages})
            self.bad({"ann": ["x"], "bob": pages})

    def test_pages_that_are_no_names(self):
        for page in ("", "X", "abcdefg", "x y", "x1", "x\n", 1, None, True, ["x"], ("x",), {}):
            self.bad({"ann": [page]})
            self.bad({"ann": ["x", page], "bob": []})
            self.bad({"ann": ["x"], "bob": ("y", page)})

    def test_a_page_twice_in_one_list(self):
        self.bad({"ann": ["x", "x"]})
        self.bad({"ann": ["x"], "bob": ("y", "x", "y")})

    def test_a_page_of_several_people(self):
        self.assertEqual(Group({"ann": ["x"], "bob": ["x"]}).pages(), ["x"])


class TestLeaves(unittest.TestCase):
    def bad(self, leaves):
        refused(self, BadGroup, {"at": 1}, Group, HELD, leaves=leaves)

    def told(self, leaves):
        group = Group(HELD, leaves=leaves)
        return [group.leaves(page) for page in ("x", "y", "z")]

    def test_left_out(self):
        for leaves in ((), [], {}):
            self.assertEqual(self.told(leaves), [1, 1, 1])
        self.assertEqual(Group(HELD).leaves("y"), 1)

    def test_a_dict(self):
        self.assertEqual(self.told({"z": 9, "x": 1}), [1, 1, 9])
        self.assertEqual(self.told({"x": 2, "y": 3, "z": 4}), [2, 3, 4])

    def test_a_list_or_a_tuple_of_pairs(self):
        self.assertEqual(self.told([("y", 5)]), [1, 5, 1])
        self.assertEqual(self.told([("y", 5), ("x", 2)]), [2, 5, 1])
        self.assertEqual(self.told((("y", 5), ("z", 9))), [1, 5, 9])

    def test_one_to_nine(self):
        for many in range(1, 10):
            self.assertEqual(self.told({"x": many}), [many, 1, 1])
            self.assertEqual(self.told([("x", many)]), [many, 1, 1])

    def test_other_numbers_and_no_numbers(self):
        for many in (0, 10, -1, 11, 10 ** 20, True, False, None, "1", "", [1], (1,), {}, [], ()):
            self.bad({"x": many})
            self.bad([("x", many)])
            self.bad({"z": 2, "x": many})
            self.bad([("z", 2), ("x", many)])

    def test_a_page_that_nobody_holds(self):
        for page in ("w", "ann", "", "X", "xy", 1, None, True, ("x",), ("x", "y")):
            self.bad({page: 1})
            self.bad([(page, 1)])
            self.bad([("x", 2), (page, 1)])
        self.bad([(["x"], 1)])
        self.bad([({}, 1)])

    def test_one_page_twice(self):
        self.bad([("x", 2), ("x", 2)])
        self.bad([("x", 2), ("y", 1), ("x", 3)])
        self.bad((("z", 1), ("z", 1)))

    def test_pairs_are_tuples_of_two(self):
        for pair in (["x", 2], ("x",), ("x", 2, 3), (), "x2", "x", 2, None, {"x": 2}, {"x": 1, 2: 3}):
            self.bad([pair])
            self.bad((("y", 1), pair))

    def test_neither_dict_nor_list(self):
        for leaves in (None, 0, 1, True, False, "", "x", "xy"):
            self.bad(leaves)

    def test_of_anything(self):
        for thing in anything():
            if thing not in ([], (), {}, {"x": 1}):
                self.bad(thing)


class TestBarred(unittest.TestCase):
    def bad(self, barred):
        refused(self, BadGroup, {"at": 2}, Group, HELD, barred=barred)

    def told(self, barred):
        return Group(HELD, barred=barred).barred()

    def test_left_out(self):
        self.assertEqual(Group(HELD).barred(), [])
        self.assertEqual(self.told([]), [])
        self.assertEqual(self.told(()), [])

    def test_either_way_about(self):
        self.assertEqual(self.told([("ann", "bob")]), [("ann", "bob")])
        self.assertEqual(self.told([("bob", "ann")]), [("ann", "bob")])
        self.assertEqual(self.told((("cid", "bob"),)), [("bob", "cid")])

    def test_told_twice(self):
        self.assertEqual(self.told([("ann", "bob"), ("ann", "bob")]), [("ann", "bob")])
        self.assertEqual(self.told([("ann", "bob"), ("bob", "ann")]), [("ann", "bob")])

    def test_all_pairs(self):
        pairs = [("cid", "bob"), ("cid", "ann"), ("ann", "bob")]
        self.assertEqual(self.told(pairs), [("ann", "bob"), ("ann", "cid"), ("bob", "cid")])

    def test_one_person_twice(self):
        self.bad([("ann", "ann")])
        self.bad([("ann", "bob"), ("cid", "cid")])

    def test_somebody_who_is_not_there(self):
        for name in ("zed", "x", "", "Ann", 0, 1, None, True, ("ann",), ["ann"], {}):
            self.bad([("ann", name)])
            self.bad([(name, "ann")])
            self.bad([("ann", "bob"), (name, "cid")])
            self.bad([(name, name)])

    def test_pairs_are_tuples_of_two(self):
        for pair in (["ann", "bob"], ("ann",), ("ann", "bob", "cid"), (), "ann", None, 1, {},
                     {"ann": "bob", "bob": "ann"}):
            self.bad([pair])
            self.bad((("ann", "bob"), pair))

    def test_no_list(self):
        for barred in (None, 0, 1, True, False, "", "ab", {}, {("ann", "bob"): True}):
            self.bad(barred)

    def test_of_anything(self):
        for thing in anything():
            if thing not in ([], (), (("ann", "bob"),)):
                self.bad(thing)


class TestOrder(unittest.TestCase):
    def test_the_first_of_several(self):
        bad = ({"ann": ["x", "x"]}, {"x": 0}, [("ann", "ann")])
        good = (HELD, {"x": 2}, [("ann", "bob")])
        for first in (0, 1, 2):
            for second in range(first, 3):
                for third in range(second, 3):
                    wrong = (first, second, third)
                    held, leaves, barred = [
                        bad[at] if at in wrong else good[at] for at in range(3)]
                    refused(self, BadGroup, {"at": first}, Group, held,
                            leaves=leaves, barred=barred)

    def test_anything_beside_anything(self):
        for thing in anything():
            if thing != {"ann": []}:
                refused(self, BadGroup, {"at": 0}, Group, thing, leaves=thing, barred=thing)
            if thing not in ([], (), {}, {"x": 1}):
                refused(self, BadGroup, {"at": 1}, Group, HELD, leaves=thing, barred=5)

    def test_by_place_and_by_name(self):
        group = Group(barred=[("ann", "bob")], leaves={"x": 2}, held=HELD)
        self.assertEqual(group, Group(HELD, leaves={"x": 2}, barred=[("ann", "bob")]))
        with self.assertRaises(TypeError):
            Group(HELD, {"x": 2})
        with self.assertRaises(TypeError):
            Group()


class TestNothingIsChanged(unittest.TestCase):
    def test_what_is_handed_in_stays(self):
        held = {"cid": ["z", "x"], "ann": ["y", "x"], "bob": []}
        leaves = {"z": 3, "x": 2}
        rows = [("z", 3), ("x", 2)]
        barred = [("cid", "ann"), ("bob", "ann"), ("ann", "cid")]
        handed = [held, leaves, rows, barred]
        ahead = copy.deepcopy(handed)
        Group(held, leaves=leaves, barred=barred)
        Group(held, leaves=rows, barred=barred)
        self.assertEqual(handed, ahead)
        self.assertEqual([list(held), list(leaves)], [["cid", "ann", "bob"], ["z", "x"]])

    def test_what_is_refused_stays(self):
        held = {"cid": ["z", "x"], "ann": ["y", "x"]}
        leaves = [("z", 3), ("x", 2)]
        barred = [("cid", "ann"), ("cid", "cid")]
        handed = [held, leaves, barred]
        ahead = copy.deepcopy(handed)
        refused(self, BadGroup, {"at": 2}, Group, held, leaves=leaves, barred=barred)
        self.assertEqual(handed, ahead)
        self.assertEqual(list(held), ["cid", "ann"])


if __name__ == "__main__":
    unittest.main()
