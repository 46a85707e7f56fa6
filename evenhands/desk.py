"""A desk: rows are said to it, and it answers each by one."""

from evenhands.calls import signs_against
from evenhands.errors import HandError, NoText, Spoils
from evenhands.groups import is_name
from evenhands.keeper import Keeper, sound
from evenhands.plans import CALLS, ROUNDS, plan
from evenhands.reach import most
from evenhands.texts import group_text, read_group
from evenhands.writing import mended

FIGURES = "0123456789"


def _is_number(word):
    """Whether it is a number of one or two figures, no nought ahead of another."""
    if not 1 <= len(word) <= 2 or not all([figure in FIGURES for figure in word]):
        return False
    return len(word) == 1 or word[0] != "0"


def _pairs_text(pairs):
    """Calls as ann+bob, blanks between."""
    return " ".join(["+".join(pair) for pair in pairs])


def _plan_text(group, by):
    """The levels of a plan, none where there is none."""
    word, levels = plan(group, by=by)
    if word == "none":
        return "none"
    if levels == ():
        return "shared"
    return " / ".join([_pairs_text(level) for level in levels])


def _tell_plan(group):
    return _plan_text(group, CALLS)


def _tell_quick(group):
    return _plan_text(group, ROUNDS)


def _tell_fewest(group):
    word, levels = plan(group)
    if word == "none":
        return "none"
    return str(sum([len(level) for level in levels]))


def _tell_against(group):
    words = signs_against(group)
    return "nothing" if words == [] else " ".join(words)


def _tell_sound(group):
    pairs = sound(group)
    return "none" if pairs == [] else _pairs_text(pairs)


def _tell_holds(group, person):
    pages = group.held(person)
    return "-" if pages == () else " ".join(pages)


def _tell_most(group, person):
    return str(most(group, person)[0])


def _tell_mend(group, number):
    found = mended(group, most=int(number))
    if found is None:
        return "none"
    rows = [f"{person} {many}" for person, many in found[0].items() if many > 0]
    return "nobody" if rows == [] else " ".join(rows)


def _tell_text(group):
    return " / ".join(group_text(group).split("\n")[:-1])


# What stands behind the words, and what answers those that only ask.
FORMS = {
    "call": ("name", "name"), "write": ("name", "name", "number"), "go": ("name",), "back": (),
    "plan": (), "quick": (), "fewest": (), "against": (), "sound": (), "holds": ("name",),
    "most": ("name",), "mend": ("number",), "text": (),
}
ASKED = {
    "plan": _tell_plan, "quick": _tell_quick, "fewest": _tell_fewest, "against": _tell_against,
    "sound": _tell_sound, "holds": _tell_holds, "most": _tell_most, "mend": _tell_mend,
    "text": _tell_text,
}


def _is_of(form, word):
    """Whether a word of a row is a name, or a number, as the form asks."""
    return _is_number(word) if form == "number" else is_name(word)


def _has_form(word, things):
    """Whether the rest of a row is one that may stand behind its word."""
    if word == "come":
        return things != [] and all([is_name(thing) for thing in things])
    if word not in FORMS or len(things) != len(FORMS[word]):
        return False
    return all([_is_of(form, thing) for form, thing in zip(FORMS[word], things)])


def _deed_of(word, things):
    """The deed that a row tells."""
    if word == "write":
        return ("write", things[0], things[1], int(things[2]))
    if word == "come":
        return ("come", things[0], tuple(things[1:]))
    return (word, *things)


class Desk:
    """A keeper of the last group that was told whole, and a text that is being told."""

    def __init__(self):
        self._keeper = None
        # The rows of the text so far, None where none is being told.
        self._rows = None

    def say(self, row):
        """The answer to a row; NoText of what is no text."""
        if not isinstance(row, str):
            raise NoText(0)
        if self._rows is not None:
            return self._read_on(row)
        if row == "group":
            self._rows = []
            return ".."
        return self._answer(row)

    def _read_on(self, row):
        """The answer to a row of a group's text."""
        if row != "over":
            self._rows.append(row + "\n")
            return ".."
        text = "".join(self._rows)
        self._rows = None
        try:
            self._keeper = Keeper(read_group(text))
        except NoText as refusal:
            return f"no row {refusal.row}"
        return "ok"

    def _answer(self, row):
        """The answer to any other row."""
        word, *things = row.split(" ")
        if self._keeper is None or not _has_form(word, things):
            return "what"
        try:
            return self._done(word, things)
        except Spoils as spoiled:
            return " ".join(["refused spoils", *spoiled.stuck])
        except HandError as refusal:
            kind = refusal.__class__.__name__
            return "refused " + kind.lower()

    def _done(self, word, things):
        """The answer to a row of such a form, unless it is refused."""
        if word in ASKED:
            answer = ASKED[word]
            return answer(self._keeper.group(), *things)
        if word == "back":
            self._keeper.back()
        else:
            self._keeper.do(_deed_of(word, things))
        return "ok"
