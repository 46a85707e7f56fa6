"""[11.2]: the desk, row by row."""

import time
import unittest
from unittest import mock

from evenhands.desk import Desk
from evenhands.errors import NoText
from evenhands.groups import Group
from evenhands.keeper import sound
from evenhands.plans import CALLS, ROUNDS, plan
from evenhands.reach import most
from evenhands.texts import group_text
from evenhands.writing import mended
from tests.helper import anything, refused
from tests.reference import calls_in, many_groups, page_each
from tests.test_plans import of_many_rounds

FOUR = ("hold a a", "hold b b", "hold c c", "hold d d")
ASKED = ("plan", "quick", "fewest", "against", "sound", "holds a", "most a", "mend 2", "text")
DEEDS = ("call a b", "write a x 2", "come e x", "go a", "back")


def told(rows):
    """A desk to which the group of these rows was told."""
    desk = Desk()
    answers = [desk.say(row) for row in ("group", *rows, "over")]
    assert answers == [".."] * (len(rows) + 1) + ["ok"], answers
    return desk


def desk_of(group):
    return told(group_text(group).split("\n")[:-1])


class DeskCase(unittest.TestCase):
    def says(self, desk, *rows):
        """Check pairs of a row and its answer, one after the other."""
        for row, answer in rows:
            self.assertEqual(desk.say(row), answer, row)

    def stays(self, desk, *rows):
        """Check that these rows are answered by what, and change nothing."""
        text = desk.say("text")
        for row in rows:
            self.assertEqual(desk.say(row), "what", row)
        self.assertEqual(desk.say("text"), text)


class TestTelling(DeskCase):
    def test_ok(self):
        self.says(Desk(), ("group", ".."), ("hold ann x", ".."), ("over", "ok"),
                  ("text", "hold ann x"))

    def test_no_row(self):
        for rows, at in [((), 0), (("",), 0), (("hold a", "hold a"), 1), (("hold a", ""), 1),
                         (("hold a", "page x 2", "?"), 1), (("hold a x", "page x 3", "bar a b"), 2),
                         (("group", "hold a"), 0), (("hold a", "group", "hold b"), 1),
                         (("hold a", "plan"), 1), (("hold b", "hold a"), 1), ((" over",), 0)]:
            desk = Desk()
            self.says(desk, ("group", ".."), *[(row, "..") for row in rows],
                      ("over", f"no row {at}"), *[(row, "what") for row in (*ASKED, *DEEDS, "over")])

    def test_whatever_rows_stand_between(self):
        rows = [thing for thing in anything() if isinstance(thing, str)]
        desk = told(FOUR)
        for row in [*rows, *ASKED, *DEEDS, "group", "over ", " over", "Over", "over\n", "\nover",
                    "a\nover\nb", "hold a\nover", "\n\n"]:
            at = 1 if row.startswith("hold ") else 0
            self.says(desk, ("group", ".."), (row, ".."), ("hold a", ".."),
                      ("over", f"no row {at}"), ("text", " / ".join(FOUR)))

    def test_rows_with_line_feeds_are_several(self):
        self.says(Desk(), ("group", ".."), ("hold a x\nhold b y", ".."), ("hold c\npage x 2", ".."),
                  ("bar a b", ".."), ("over", "ok"),
                  ("text", "hold a x / hold b y / hold c / page x 2 / bar a b"))
        self.says(Desk(), ("group", ".."), ("hold a\n", ".."), ("over", "no row 1"))
        self.says(Desk(), ("group", ".."), ("hold a\nhold b\n?", ".."), ("hold c", ".."),
                  ("over", "no row 2"))

    def test_over_among_them_ends_nothing(self):
        self.says(Desk(), ("group", ".."), ("hold a\nover", ".."), ("hold b", ".."),
                  ("over", "no row 1"), ("over", "what"))

    def test_a_new_keeper(self):
        desk = told(FOUR)
        self.says(desk, ("call a b", "ok"), ("group", ".."), ("hold ann x", ".."), ("over", "ok"),
                  ("back", "refused noback"), ("text", "hold ann x"), ("holds a", "refused noperson"))

    def test_refused_texts_leave_all_as_ahead(self):
        desk = told(FOUR)
        self.says(desk, ("call a b", "ok"), ("group", ".."), ("hold ann x", ".."), ("?", ".."),
                  ("over", "no row 1"), ("holds a", "a b"), ("back", "ok"), ("holds a", "a"),
                  ("back", "refused noback"), ("group", ".."), ("over", "no row 0"),
                  ("text", " / ".join(FOUR)))

    def test_ahead_of_the_first_group(self):
        desk = Desk()
        for row in [*ASKED, *DEEDS, "over", "", "what", "hold a", "Group", "group ", " group"]:
            self.assertEqual(desk.say(row), "what", row)
        self.says(desk, ("group", ".."), ("hold a", ".."), ("over", "ok"), ("over", "what"))

    def test_two_desks(self):
        one, other = told(FOUR), told(("hold ann",))
        self.says(one, ("call a b", "ok"), ("group", ".."))
        self.says(other, ("text", "hold ann"), ("back", "refused noback"))
        self.says(Desk(), ("text", "what"))


class TestDeeds(DeskCase):
    def test_call(self):
        self.says(told(FOUR), ("call b a", "ok"), ("holds a", "a b"), ("holds b", "a b"),
                  ("call a b", "refused idle"), ("call a c", "refused uneven"),
                  ("call a a", "refused barred"), ("call a zed", "refused noperson"),
                  ("call zed a", "refused noperson"))
        self.says(told((*FOUR, "bar a b")), ("call b a", "refused barred"), ("call b c", "ok"))

    def test_call_spoils(self):
        desk = told(("hold a w", "hold b u", "hold c v", "hold d w"))
        self.says(desk, ("call c b", "refused spoils a d"), ("holds b", "u"), ("back", "refused noback"),
                  ("sound", "a+b a+c b+d c+d"), ("call a b", "ok"))
        desk = told(("hold a w x", "hold b w", "hold c u x", "hold d v w", "hold e w y", "hold f u"))
        self.says(desk, ("call c d", "refused spoils a b c d e f"))

    def test_write(self):
        self.says(told(FOUR), ("write a x 2", "ok"), ("holds a", "a x"),
                  ("text", "hold a a x / hold b b / hold c c / hold d d / page x 2"),
                  ("write b y 1", "ok"), ("write zed y 1", "refused noperson"),
                  ("write a x 1", "refused twice"), ("write a b 0", "refused twice"),
                  ("write a z 0", "refused nonumber"), ("write a z 10", "refused nonumber"),
                  ("write a z 99", "refused nonumber"), ("write a z 9", "ok"))
        self.says(told(("hold ann a b c d e f g h i j k l",)), ("write ann m 1", "refused toomany"),
                  ("write ann m 10", "refused nonumber"))

    def test_come(self):
        self.says(told(FOUR), ("come e", "ok"), ("holds e", "-"), ("come f z a", "ok"),
                  ("holds f", "a z"), ("come a", "refused twice"), ("come f x", "refused twice"),
                  ("come g", "refused toomany"), ("go e", "ok"), ("come g x x", "refused twice"),
                  ("come g y x a y", "refused twice"), ("come g y x", "ok"), ("holds g", "x y"))
        self.says(told(("hold ann a b c d e f g h i j k l",)), ("come bob m", "refused toomany"),
                  ("come bob a l", "ok"))

    def test_go(self):
        self.says(told(("hold ann x", "hold bob y", "page x 2", "bar ann bob")),
                  ("go zed", "refused noperson"), ("go ann", "ok"), ("text", "hold bob y"),
                  ("go bob", "refused toomany"), ("go ann", "refused noperson"))

    def test_back(self):
        desk = told(FOUR)
        self.says(desk, ("back", "refused noback"), ("call a b", "ok"), ("go d", "ok"),
                  ("write a x 3", "ok"), ("back", "ok"), ("back", "ok"), ("back", "ok"),
                  ("back", "refused noback"), ("text", " / ".join(FOUR)))


class TestAsked(DeskCase):
    def test_plan_and_quick(self):
        both = "a+b c+d / a+c b+d"
        self.says(told(FOUR), ("plan", both), ("quick", both), ("call a b", "ok"),
                  ("plan", "c+d / a+c b+d"), ("quick", "c+d / a+c b+d"), ("call c d", "ok"),
                  ("plan", "a+c b+d"), ("call a c", "ok"), ("call b d", "ok"), ("plan", "shared"),
                  ("quick", "shared"), ("go a", "ok"), ("plan", "shared"), ("write b z 1", "ok"),
                  ("plan", "none"), ("quick", "none"))

    def test_quick_is_asked_by_rounds(self):
        desk = told(FOUR)
        with mock.patch("evenhands.desk.plan", return_value=("plan", ())) as asked:
            desk.say("quick")
            self.assertEqual(asked.call_args.kwargs, {"by": ROUNDS})
            desk.say("plan")
            self.assertIn(asked.call_args.kwargs, ({"by": CALLS}, {}))

    def test_fewest(self):
        self.says(told(FOUR), ("fewest", "4"), ("call a b", "ok"), ("fewest", "3"), ("go a", "ok"),
                  ("fewest", "none"))
        self.says(told(("hold ann x",)), ("fewest", "0"))
        self.says(desk_of(page_each(6)), ("fewest", "9"))

    def test_against(self):
        self.says(told(FOUR), ("against", "nothing"))
        self.says(told(("hold ann x", "hold bob y", "page x 2")), ("against", "sum"))
        self.says(told(("hold ann x", "hold bob y", "hold cid z")), ("against", "odd"))
        self.says(told(("hold ann x", "hold bob x y")), ("against", "odd sum alone"))
        self.says(told(("hold a x", "hold b x", "hold c x y", "hold d x y")), ("against", "alone"))

    def test_sound(self):
        self.says(told(FOUR), ("sound", "a+b a+c a+d b+c b+d c+d"), ("call b c", "ok"),
                  ("sound", "a+d"), ("go a", "ok"), ("sound", "none"))
        self.says(told(("hold ann x",)), ("sound", "none"))

    def test_holds(self):
        self.says(told(("hold ann x y", "hold bob")), ("holds ann", "x y"), ("holds bob", "-"),
                  ("holds cid", "refused noperson"), ("holds x", "refused noperson"))

    def test_most(self):
        self.says(told(FOUR), ("most a", "4"), ("most x", "refused noperson"))
        self.says(told(("hold ann x", "hold bob", "page x 9")), ("most ann", "9"), ("most bob", "0"))

    def test_mend(self):
        self.says(told(FOUR), ("mend 0", "nobody"), ("mend 2", "nobody"), ("mend 4", "nobody"),
                  ("mend 5", "refused nonumber"), ("mend 10", "refused nonumber"),
                  ("mend 99", "refused nonumber"))
        self.says(told(("hold ann x y", "hold bob")), ("mend 1", "none"), ("mend 2", "bob 2"),
                  ("mend 3", "bob 2"), ("text", "hold ann x y / hold bob"))
        self.says(told(("hold a x y", "hold b", "hold c z", "hold d v")), ("mend 2", "b 1 d 1"))
        self.says(told(("hold ann x", "hold bob y", "hold cid z")), ("mend 4", "none"))

    def test_text(self):
        rows = ("hold ann x y", "hold bob", "page x 3", "page y 2", "bar ann bob")
        self.says(told(rows), ("text", " / ".join(rows)))
        self.says(told(("hold ann",)), ("text", "hold ann"))

    def test_beside_what_it_asks(self):
        for group in [page_each(6), of_many_rounds(), *many_groups(150, 131)]:
            desk = desk_of(group)
            for row, by in [("plan", "calls"), ("quick", "rounds")]:
                word, levels = plan(group, by=by)
                rows = [" ".join("+".join(pair) for pair in level) for level in levels
                        if word == "plan"]
                self.assertEqual(desk.say(row),
                                 "none" if word == "none" else " / ".join(rows) or "shared")
            word, levels = plan(group)
            self.assertEqual(desk.say("fewest"),
                             "none" if word == "none" else str(calls_in(levels)))
            pairs = " ".join(one + "+" + other for one, other in sound(group))
            self.assertEqual(desk.say("sound"), pairs or "none")
            for person in group.people():
                self.assertEqual(desk.say("most " + person), str(most(group, person)[0]))
            found = mended(group, most=1)
            if found is None:
                self.assertEqual(desk.say("mend 1"), "none")
            else:
                some = " ".join(f"{one} {many}" for one, many in found[0].items() if many)
                self.assertEqual(desk.say("mend 1"), some or "nobody")
            self.assertEqual(desk.say("text"), group_text(group)[:-1].replace("\n", " / "))

    def test_it_is_fast(self):
        desk = desk_of(page_each(6))
        begun = time.process_time()
        for row in (*ASKED, *DEEDS):
            desk.say(row)
        self.assertLess(time.process_time() - begun, 3)


class TestWhat(DeskCase):
    def test_words_more_or_less(self):
        self.stays(told(FOUR), "call", "call a", "call a b c", "write a x", "write a x 2 2", "write",
                   "write a", "come", "go", "go a b", "back a", "back 1", "plan a", "plan 2",
                   "quick a", "fewest a", "against a", "sound a", "holds", "holds a b", "most",
                   "most a b", "mend", "mend 1 2", "text a", "over", "over a", "group a")

    def test_other_words(self):
        self.stays(told(FOUR), "", " ", "what", "ok", "calls a b", "Call a b", "CALL a b", "plans",
                   "Plan", "PLAN", "hold a", "hold e", "page a 2", "bar a b", "callab", "a b",
                   "goa", "refused", "..", "none", "0", "help", "~", "call+a+b", "write a 2 x")

    def test_blanks_more(self):
        for row in (*ASKED, *DEEDS):
            if row != "group":
                self.stays(told(FOUR), " " + row, row + " ", row + "\n", "\n" + row,
                           row.replace(" ", "  ") + ("" if " " in row else " "))

    def test_words_that_are_no_names(self):
        for word in ("A", "aB", "a1", "1", "", "abcdefg", "a-b", "a+b", "a_b", "~", "a\n"):
            self.stays(told(FOUR), f"call {word} b", f"call a {word}", f"write {word} x 1",
                       f"write a {word} 1", f"come {word}", f"come {word} x", f"come e {word}",
                       f"come e x {word}", f"come e {word} x", f"go {word}", f"holds {word}",
                       f"most {word}")
        self.says(told(FOUR), ("call abcdef b", "refused noperson"), ("come abcdef abcdef", "ok"))

    def test_words_that_are_no_numbers(self):
        for word in ("", "00", "01", "09", "100", "123", "000", "-1", "+1", "1.", "x", "2x", "x2",
                     "two", "1 1", " 1", "1 ", "1\n"):
            self.stays(told(FOUR), f"write a x {word}", f"mend {word}")

    def test_no_text(self):
        for thing in [*anything(), ["plan"], ("group",), None]:
            if not isinstance(thing, str):
                desk = told(FOUR)
                refused(self, NoText, {"row": 0}, desk.say, thing)
                self.says(desk, ("text", " / ".join(FOUR)), ("call a b", "ok"))
                refused(self, NoText, {"row": 0}, Desk().say, thing)
                self.says(desk, ("group", ".."), ("hold ann", ".."))
                refused(self, NoText, {"row": 0}, desk.say, thing)
                self.says(desk, ("hold bob", ".."), ("over", "ok"), ("text", "hold ann / hold bob"))

    def test_by_name(self):
        self.assertEqual(Desk().say(row="group"), "..")


class TestGroupsTold(unittest.TestCase):
    def test_of_many_groups(self):
        for group in [Group({"a": []}), *many_groups(60, 132)]:
            self.assertEqual(desk_of(group).say("text"),
                             " / ".join(group_text(group).split("\n")[:-1]))


if __name__ == "__main__":
    unittest.main()
