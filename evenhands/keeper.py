"""A keeper of a group: it does deeds, one after the other, and takes them back."""

from evenhands.calls import behind, called, may
from evenhands.errors import NoBack, NoDeed, NoName, NoPage, Spoils, TooMany, Twice
from evenhands.groups import (
    MOST_PAGES, MOST_PEOPLE, Group, all_held, all_leaves, is_list, is_name, pairs_of)
from evenhands.matchings import least_ones, matchings
from evenhands.plans import Ways, has_plan
from evenhands.writing import written

# How many things a deed has, its word counted.
SIZES = {"call": 3, "write": 4, "come": 3, "go": 2}


def _leads_on(ways, pair):
    """Whether there is a plan behind the call of these two."""
    numbers = ways.table.numbers_of(pair)
    return ways.can_end(ways.table.lots_behind(ways.table.own_lots, [numbers]))


def sound(group):
    """The rising list of the pairs who may call such that there is a plan behind it."""
    ways = Ways(group)
    return [pair for pair in pairs_of(group.people())
            if may(group, pair[0], pair[1]) and _leads_on(ways, pair)]


def _is_deed(thing):
    """Whether it is a deed by its word and how many things it has; of anything."""
    if not isinstance(thing, tuple) or thing == () or not isinstance(thing[0], str):
        return False
    return thing[0] in SIZES and len(thing) == SIZES[thing[0]]


def _check_deeds(deeds):
    """Raise NoDeed where one is none by its word and how many things it has, or of no list."""
    if not is_list(deeds):
        raise NoDeed(0)
    for at, deed in enumerate(deeds):
        if not _is_deed(deed):
            raise NoDeed(at)


def _stuck(group):
    """The least ones without a matching that one comes to by the least matchings."""
    now = group
    while matchings(now) != []:
        now = behind(now, matchings(now)[0])
    return tuple(least_ones(now))


def _behind_call(group, one, other, watch):
    """The Group behind a call; one that watches lets none by that takes the last plan."""
    later = called(group, one, other)
    if watch and not has_plan(later) and has_plan(group):
        raise Spoils(_stuck(later))
    return later


def _check_newcomer(group, person, pages):
    """Raise what one who comes is refused with for its name or its pages, if it is."""
    if not is_name(person):
        raise NoName("who comes needs a name")
    if person in group.people():
        raise Twice(person)
    if not isinstance(pages, tuple):
        raise NoPage(None)
    for page in pages:
        if not is_name(page):
            raise NoPage(page)
    for at, page in enumerate(pages):
        if page in pages[:at]:
            raise Twice(page)


def _behind_coming(group, person, pages):
    """The Group behind one's coming with these pages."""
    _check_newcomer(group, person, pages)
    there = sorted(set(group.pages() + list(pages)))
    if len(group) == MOST_PEOPLE or len(there) > MOST_PAGES:
        raise TooMany("there would be a seventh person or a thirteenth page")
    held = all_held(group)
    held[person] = pages
    return Group(held, leaves=all_leaves(group), barred=group.barred())


def _behind_going(group, person):
    """The Group behind one's going, with its bars and the pages it held alone."""
    group.held(person)
    if len(group) == 1:
        raise TooMany("the last one can't go")
    held = all_held(group)
    del held[person]
    there = [page for pages in held.values() for page in pages]
    leaves = {page: many for page, many in all_leaves(group).items() if page in there}
    barred = [pair for pair in group.barred() if person not in pair]
    return Group(held, leaves=leaves, barred=barred)


def _behind_deed(group, deed, watch):
    """The Group behind a deed, refused as told for each kind of deed."""
    word, person, *things = deed
    if word == "call":
        return _behind_call(group, person, things[0], watch)
    if word == "write":
        return written(group, person, things[0], leaves=things[1])
    if word == "come":
        return _behind_coming(group, person, things[0])
    return _behind_going(group, person)


def _as_logged(deed):
    """The deed as the log tells it."""
    if deed[0] == "come":
        return ("come", deed[1], tuple(sorted(deed[2])))
    return deed


class Keeper:
    """A group, the deeds by which it became what it is, and how many tries there were.

    Where it watches, it does no call that takes the last plan.
    """

    def __init__(self, group, *, watch=True):
        self._watch = watch
        # The group at the start, then the one behind each deed that stands.
        self._groups = [group]
        self._deeds = []
        self._begun = 0
        self._ended = 0

    def do(self, deed):
        """Do one deed; NoDeed, or refused as told for this kind of deed."""
        self._try([deed])

    def all_done(self, deeds):
        """Do all of these deeds, or none; NoDeed, or refused as the first that is."""
        self._try(deeds)

    def _try(self, deeds):
        self._begun += 1
        try:
            self._do_all(deeds)
        finally:
            self._ended += 1

    def _do_all(self, deeds):
        _check_deeds(deeds)
        groups = [self.group()]
        for deed in deeds:
            groups.append(_behind_deed(groups[-1], deed, self._watch))
        self._groups.extend(groups[1:])
        self._deeds.extend([_as_logged(deed) for deed in deeds])

    def back(self):
        """Take back the last deed that stands; NoBack."""
        if self._deeds == []:
            raise NoBack("no deed stands")
        self._groups.pop()
        self._deeds.pop()

    def group(self):
        """The group as it is."""
        return self._groups[-1]

    def log(self):
        """The list of the deeds that stand."""
        return list(self._deeds)

    def twin(self):
        """A Keeper that stands alike and goes on alone."""
        other = Keeper(self._groups[0], watch=self._watch)
        other._groups = list(self._groups)
        other._deeds = list(self._deeds)
        other._begun = self._begun
        other._ended = self._ended
        return other

    def tries(self):
        """The pair of how many do and all_done were begun, and how many ended."""
        return (self._begun, self._ended)


def kept(group, log, *, watch=True):
    """A Keeper of the group behind all deeds of a log; refused as all_done."""
    keeper = Keeper(group, watch=watch)
    keeper.all_done(log)
    return keeper
