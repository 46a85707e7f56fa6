"""A small judge of plans, and of papers that there is none: it tries but matchings of one weight."""

from evenhands.calls import behind
from evenhands.matchings import Table, matchings


def is_plan(group, thing):
    """Whether it is a plan of the group; of anything."""
    if not isinstance(thing, tuple):
        return False
    now = group
    for level in thing:
        # Where all hold all there is the matching of nobody, which has no place in a plan.
        if now.shared() or level not in matchings(now):
            return False
        now = behind(now, level)
    return now.shared()


def _are_rising(things, known):
    """Whether it is a rising tuple of unlike ones of these names; of anything."""
    if not isinstance(things, tuple) or not all([thing in known for thing in things]):
        return False
    return list(things) == sorted(set(things))


def _is_state(group, thing):
    """Whether it is a state of this group's people with all its pages; of anything."""
    if not isinstance(thing, tuple) or len(thing) != len(group):
        return False
    pages = group.pages()
    if not all([_are_rising(some, pages) for some in thing]):
        return False
    return sorted({page for some in thing for page in some}) == pages


def _shows(table, lots, thing):
    """Whether it is a set of least ones that keeps each matching away; of anything."""
    least = table.named(table.lightest(lots))
    return _are_rising(thing, least) and table.blocks(lots, table.numbers_of(thing))


def _leads_on(table, lots, paper):
    """Whether somebody doesn't hold all, and each matching leads to a state of the paper."""
    if table.lightest(lots) == []:
        return False
    states = [table.state_of(table.lots_behind(lots, matching))
              for matching in table.pairings(lots)]
    return all([state in paper for state in states])


def lets_by(group, thing):
    """Whether it is a paper that the group has no plan; of anything."""
    if not isinstance(thing, dict) or group.state() not in thing:
        return False
    table = Table(group)
    for state, some in thing.items():
        if not _is_state(group, state):
            return False
        lots = table.lots_of(state)
        stands = _leads_on(table, lots, thing) if some is None else _shows(table, lots, some)
        if not stands:
            return False
    return True
