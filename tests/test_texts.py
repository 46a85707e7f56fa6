"""[11.1], [0.2] (h): group_text, read_group."""

import unittest
from itertools import product
from random import Random

from evenhands.errors import NoText
from evenhands.groups import Group
from evenhands.texts import group_text, read_group
from tests.helper import anything, refused, some_groups, told_of
from tests.reference import many_groups, page_each

FULL = ("hold ann x y\nhold bob\nhold cid v x\npage v 9\npage x 3\n"
        "bar ann bob\nbar ann cid\nbar bob cid\n")


def full_group():
    return Group({"cid": ["x", "v"], "bob": [], "ann": ["y", "x"]}, leaves={"x": 3, "v": 9, "y": 1},
                 barred=[("cid", "bob"), ("ann", "bob"), ("cid", "ann"), ("bob", "cid")])


class TestGroupText(unittest.TestCase):
    def test_the_very_text(self):
        self.assertEqual(group_text(Group({"ann": []})), "hold ann\n")
        self.assertEqual(group_text(Group({"ann": ["x"]})), "hold ann x\n")
        self.assertEqual(group_text(Group({"bob": ["y", "x"], "ann": []})),
                         "hold ann\nhold bob x y\n")
        self.assertEqual(group_text(full_group()), FULL)

    def test_leaves(self):
        group = Group({"a": ["y", "x", "z"]}, leaves={"z": 2, "x": 9, "y": 1})
        self.assertEqual(group_text(group), "hold a x y z\npage x 9\npage z 2\n")

    def test_bars(self):
        group = Group({"b": [], "a": [], "c": []}, barred=[("c", "a"), ("c", "b"), ("a", "c")])
        self.assertEqual(group_text(group), "hold a\nhold b\nhold c\nbar a c\nbar b c\n")

    def test_names_that_begin_alike(self):
        group = Group({"ab": ["x"], "a": ["xy", "x"], "abc": ["y"]}, leaves={"xy": 2, "x": 3},
                      barred=[("ab", "abc"), ("a", "abc"), ("ab", "a")])
        self.assertEqual(group_text(group), "hold a x xy\nhold ab x\nhold abc y\npage x 3\n"
                                            "page xy 2\nbar a ab\nbar a abc\nbar ab abc\n")

    def test_the_group_stays(self):
        group = full_group()
        before = told_of(group)
        self.assertEqual(group_text(group=group), FULL)
        self.assertEqual(told_of(group), before)


class TestReadGroup(unittest.TestCase):
    def test_read_again(self):
        twelve = Group({person: list("abcdefghijkl") for person in "uvwxyz"},
                       leaves={page: 9 for page in "abcdefghijkl"})
        for group in [full_group(), twelve, Group({"a": []}), page_each(6), *some_groups(),
                      *many_groups(300, 121)]:
            text = group_text(group)
            again = read_group(text)
            self.assertIs(type(again), Group)
            self.assertEqual(again, group)
            self.assertEqual(told_of(again), told_of(group))
            self.assertEqual(group_text(again), text)

    def test_by_name(self):
        self.assertEqual(read_group(text=FULL), full_group())

    def test_just_such_texts(self):
        """Whatever is read is the very text of what is read."""
        chance = Random(122)
        pieces = ["hold ", "page ", "bar ", "a", "b", "x", "y", " ", "2", "1", "\n", "\n", "A"]
        found = 0
        for _ in range(20000):
            text = "hold a x\n" + "".join(chance.choice(pieces) for _ in range(chance.randint(0, 7)))
            try:
                self.assertEqual(group_text(read_group(text)), text)
                found += 1
            except NoText as refusal:
                rows = text.count("\n") + (not text.endswith("\n"))
                self.assertTrue(0 <= refusal.row <= rows)
        self.assertGreater(found, 100)

    def test_one_sign_otherwise(self):
        for at, sign in product(range(len(FULL)), " \nax3A"):
            for text in (FULL[:at] + sign + FULL[at + 1:], FULL[:at] + sign + FULL[at:],
                         FULL[:at] + FULL[at + 1:]):
                try:
                    self.assertEqual(group_text(read_group(text)), text)
                except NoText as refusal:
                    self.assertGreaterEqual(refusal.row, text[:at].count("\n"))


class TestRefused(unittest.TestCase):
    def no_text(self, row, *texts):
        for text in texts:
            refused(self, NoText, {"row": row}, read_group, text)

    def last(self, ahead, *rows):
        """Check that each of these rows can't stand behind these that can, whatever follows."""
        read_group(ahead)
        at = ahead.count("\n")
        for row in rows:
            self.no_text(at, ahead + row, ahead + row + "\n", ahead + row + "\n?\n",
                         ahead + row + "\n" + ahead)

    def test_no_text(self):
        for thing in anything():
            if not isinstance(thing, str):
                self.no_text(0, thing)
        self.no_text(0, [FULL], (FULL,), {FULL: 1})

    def test_texts_of_anything(self):
        for thing in anything():
            if isinstance(thing, str):
                self.no_text(0, thing, thing + "\n")

    def test_the_first_row_lacks(self):
        self.no_text(0, "", "\n", "\n\n", "\nhold a\n")

    def test_the_last_line_feed_lacks(self):
        self.no_text(1, "hold a", "hold ann x y")
        self.no_text(2, "hold a\nhold b", "hold a x\npage x 2")
        self.no_text(8, FULL[:-1])
        self.no_text(3, "hold a\nhold b\nbar a b")

    def test_a_last_row_that_cannot_stand(self):
        self.no_text(0, "hold", "h", "hold a b a", "page x 2", " ")
        self.no_text(1, "hold b\nhold a", "hold b\nhold b", "hold a\n ", "hold a x\npage x",
                     "hold a x\npage x 1")
        self.no_text(7, FULL[:-2] + "e", FULL[:-3])

    def test_rows_of_no_form(self):
        self.no_text(1, "hold ann x\n\n", "hold ann x\n\nhold bob\n")
        self.last("hold ann x\nhold bob y\n", " ", "hold", "hold ", "hold  cid", " hold cid",
                  "hold cid ", "hold cid  x", "hold cid x ", "Hold cid", "HOLD cid", "held cid",
                  "holdcid", "hold Cid", "hold cid X", "hold cid1", "hold cid x1", "hold abcdefg",
                  "hold cid abcdefg", "hold cid x,y", "cid x", "hold-cid", "over",
                  "group", "hold 7", "hold cid 3")
        self.last("hold ann x y\nhold bob z\n", "page", "page x", "page x 2 2", "page x  2",
                  " page x 2", "page x 2 ", "page x two", "page 2 x", "Page x 2", "page X 2",
                  "page x -2", "page x +2", "page x 2.0", "page x y", "pagex 2", "page 2", "page  2")
        self.last("hold ann x y\nhold bob z\n", "bar", "bar ann", "bar ann bob cid", "bar ann  bob",
                  " bar ann bob", "bar ann bob ", "Bar ann bob", "bar Ann bob", "barann bob",
                  "bar ann,bob", "bars ann bob")

    def test_leaves_that_cannot_be(self):
        self.last("hold ann x y\n", *["page x " + word for word in (
            "1", "0", "10", "03", "02", "00", "22", "99", "", "-1", "1x", "234", "23456789")])
        for leaves in range(2, 10):
            self.assertEqual(read_group(f"hold ann x y\npage x {leaves}\n").leaves("x"), leaves)

    def test_people_out_of_order_or_twice(self):
        self.last("hold ann x\nhold bob y\n", "hold ann", "hold bob", "hold bob z", "hold bob y",
                  "hold al", "hold ba", "hold b", "hold bo")
        self.last("hold b\n", "hold a z", "hold b z")

    def test_pages_of_a_row_out_of_order_or_twice(self):
        self.last("hold ann x y\n", "hold bob y x", "hold bob x x", "hold bob x y x",
                  "hold bob xy x", "hold bob x y y", "hold bob b a")
        self.no_text(0, "hold bob y x\n", "hold bob x x\n")

    def test_page_rows_out_of_order_or_twice(self):
        self.last("hold ann x y z\npage y 2\n", "page x 2", "page y 2", "page y 3", "page x 9")
        self.last("hold ann x xy z\npage xy 2\n", "page x 3")

    def test_bars_out_of_order_or_twice(self):
        rows = "hold a\nhold b\nhold c\nhold d\nbar a c\nbar b c\n"
        self.last(rows, "bar a c", "bar b c", "bar a b", "bar a d", "bar c b", "bar d b", "bar c c",
                  "bar d c", "bar d d", "bar b b")
        read_group(rows + "bar b d\nbar c d\n")

    def test_lots_out_of_order(self):
        self.last("hold a x y\nhold b\npage x 2\n", "hold c", "hold c z", "hold b")
        self.last("hold a x y\nhold b\npage x 2\nbar a b\n", "page y 2", "page x 2", "hold c")
        self.last("hold a x y\nhold b\nbar a b\n", "page x 2", "hold c")

    def test_a_seventh_person(self):
        rows = "".join(f"hold {person}\n" for person in "abcdef")
        self.last(rows, "hold g", "hold g x", "hold zed")
        self.assertEqual(len(read_group(rows)), 6)

    def test_a_thirteenth_page(self):
        self.last("hold ann a b c d e f\nhold bob g h i j k l\n", "hold cid m", "hold cid a m",
                  "hold cid aa")
        read_group("hold ann a b c d e f\nhold bob g h i j k l\nhold cid a l\n")
        self.no_text(0, "hold ann a b c d e f g h i j k l m\n")
        self.no_text(1, "hold ann a b c d e f g\nhold bob h i j k l m\n")
        self.assertEqual(len(read_group("hold ann a b c d e f g h i j k l\n").pages()), 12)

    def test_pages_that_nobody_holds(self):
        self.last("hold ann x y\nhold bob\n", "page z 2", "page ann 2", "page xy 2", "page a 9")
        self.no_text(0, "page x 2\n", "page x 2\nhold ann x\n")
        self.no_text(1, "hold ann\npage ann 2\n")

    def test_bars_of_somebody_who_is_not_there(self):
        self.last("hold ann x\nhold bob\n", "bar ann cid", "bar al ann", "bar x y", "bar ann x",
                  "bar ann zed", "bar aa bob")
        self.no_text(0, "bar ann bob\n")

    def test_the_first_of_several(self):
        self.no_text(1, "hold a x\n?\npage x 3\n", "hold a x\npage y 2\npage x 1\nbar a a")
        self.no_text(2, "hold a x\npage x 3\npage x 3\nhold a\n")


if __name__ == "__main__":
    unittest.main()
