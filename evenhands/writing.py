"""Pages that people write ahead of all calls, so that all can come to hold all."""

from evenhands.calls import signs_against
from evenhands.errors import NoNumber, NoPage, NoWay, TooMany, Twice
from evenhands.groups import (
    LETTERS, MOST_PAGES, Group, all_held, all_leaves, are_leaves, is_name, is_number, pairs_of)
from evenhands.plans import has_plan, plan

MOST_MENDED = 4


def written(group, person, page, *, leaves=1):
    """The Group in which the person holds this new page, too; NoPerson, NoPage, Twice .."""
    pages = group.held(person)
    if not is_name(page):
        raise NoPage(page)
    if page in group.pages():
        raise Twice(page)
    if not are_leaves(leaves):
        raise NoNumber("a page has from 1 to 9 leaves")
    if len(group.pages()) == MOST_PAGES:
        raise TooMany("there would be a thirteenth page")
    held = all_held(group)
    held[person] = [*pages, page]
    sizes = all_leaves(group)
    sizes[page] = leaves
    return Group(held, leaves=sizes, barred=group.barred())


def fresh(group):
    """The first name that is no page, of a, b, .."""
    # A group has fewer pages than there are letters, so that no name needs two.
    return [letter for letter in LETTERS if letter not in group.pages()][0]


def _rows(many, total):
    """The rising list of the rows of so many numbers that come to this total."""
    if many == 1:
        return [(total,)]
    return [(first, *rest) for first in range(total + 1) for rest in _rows(many - 1, total - first)]


def _behind_writing(group, row):
    """The Group behind so many writings by each of the people."""
    now = group
    for person, many in zip(group.people(), row):
        for _ in range(many):
            now = written(now, person, fresh(now))
    return now


def _counts(people, row):
    """The dict from the people to their numbers in a row."""
    return dict(zip(people, row))


def mended(group, *, most=2):
    """The triple (counts, group, levels) of the fewest writings that help, or None; NoNumber."""
    if not is_number(most, 0, MOST_MENDED):
        raise NoNumber("a number from 0 to 4 is asked")
    for total in range(min(most, MOST_PAGES - len(group.pages())) + 1):
        for row in _rows(len(group), total):
            now = _behind_writing(group, row)
            # The signs alone tell of most groups that they have no plan, and fast.
            if signs_against(now) == [] and has_plan(now):
                return (_counts(group.people(), row), now, plan(now)[1])
    return None


def _check_four(group):
    """Raise NoWay of any group but one of four people, none barred."""
    if len(group) != 4 or group.barred() != []:
        raise NoWay("four people, none barred, are asked")


def _both(group, one, other):
    """How many leaves the pages have that these two both hold."""
    return sum([group.leaves(page) for page in group.held(one) if page in group.held(other)])


def _known(group, person, two):
    """How many leaves the person's pages have that one at least of two others holds."""
    pages = group.held(two[0]) + group.held(two[1])
    return sum([group.leaves(page) for page in group.held(person) if page in pages])


def _others(group, two):
    """The pair of the other two of four people."""
    return tuple([person for person in group.people() if person not in two])


def by_pairs(group):
    """The rising list of the partings into pairs who hold alike numbers together; NoWay."""
    _check_four(group)
    first, *rest = group.people()
    partings = [((first, person), _others(group, (first, person))) for person in rest]
    return [(pair, others) for pair, others in partings
            if (_both(group, *pair) - _both(group, *others)) % 2 == 0]


def by_two(group):
    """The rising list of the pairs of whom the other two know as much; NoWay."""
    _check_four(group)
    found = []
    for two in pairs_of(group.people()):
        third, fourth = _others(group, two)
        if _known(group, third, two) == _known(group, fourth, two):
            found.append(two)
    return found


def _weights_by_pairs(group, pair, others):
    """The least weights at which each pair calls, and then both pairs weigh the same."""
    # Behind the calls each holds twice its weight, without what its pair both held ahead.
    more = (_both(group, *pair) - _both(group, *others)) // 2
    asked = [group.weight(person) - more for person in pair]
    weight = max(asked + [group.weight(person) for person in others])
    return {pair[0]: weight + more, pair[1]: weight + more, others[0]: weight, others[1]: weight}


def _weights_by_two(group, two):
    """The least weights at which two call, and then weigh what each of the others does."""
    others = _others(group, two)
    both = _both(group, *two)
    later = max([group.weight(person) for person in others])
    asked = [group.weight(person) for person in two]
    # Twice its weight, without what both held, has to come to that of the others at least.
    weight = max([*asked, (later + both + 1) // 2])
    later = 2 * weight - both
    return {two[0]: weight, two[1]: weight, others[0]: later, others[1]: later}


def cure(group):
    """The dict from four people to how many pages each writes so that there is a plan; NoWay."""
    weights = [_weights_by_pairs(group, pair, others) for pair, others in by_pairs(group)]
    weights.extend([_weights_by_two(group, two) for two in by_two(group)])
    if weights == []:
        return None
    people = group.people()
    rows = [[asked[person] - group.weight(person) for person in people] for asked in weights]
    return _counts(people, min(rows, key=lambda row: (sum(row), row)))
