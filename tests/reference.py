"""What the document says from matchings on, worked out anew: slowly, and by groups alone."""

from itertools import combinations, product
from random import Random

from evenhands.calls import behind, called, may
from evenhands.groups import Group
from evenhands.rising import rising


def page_each(many):
    """So many people with a page each of one leaf, called like them."""
    return Group({letter: [letter] for letter in "abcdef"[:many]})


def joined_by(people, joined):
    """A group with a page each, in which just these pairs may call."""
    pairs = [pair for pair in combinations(people, 2) if pair not in joined]
    return Group({person: [person] for person in people}, barred=pairs)


def many_groups(many, seed):
    """So many groups of all sizes, alike each time; most of them with a plan or some calls."""
    chance = Random(seed)
    for _ in range(many):
        people = "abcdef"[:chance.choice((1, 2, 3, 4, 4, 4, 5, 6, 6))]
        pages = "uvwxyz"[:chance.randint(1, 6)]
        most = chance.choice((1, 1, 2, 3))
        held = {person: [page for page in pages if chance.random() < 0.4] for person in people}
        for some in held.values():
            if not some:
                some.append(chance.choice(pages))
        there = sorted({page for some in held.values() for page in some})
        barred = [pair for pair in combinations(people, 2) if chance.random() < 0.08]
        yield Group(held, leaves={page: chance.randint(1, most) for page in there}, barred=barred)


def row_of_calls(group, seed):
    """A row of even calls as chance has it, until there is none."""
    chance = Random(seed)
    calls = []
    while True:
        pairs = [(one, other) for one in group.people() for other in group.people()
                 if may(group, one, other)]
        if not pairs:
            return calls
        calls.append(chance.choice(pairs))
        group = called(group, *calls[-1])


def least_of(group):
    lacking = [person for person in group.people() if person not in group.holders()]
    return [one for one in lacking
            if all(group.weight(one) <= group.weight(other) for other in lacking)]


def matchings_of(group):
    least = least_of(group)
    pairs = [pair for pair in combinations(least, 2) if may(group, *pair)]
    return sorted(some for some in combinations(pairs, len(least) // 2)
                  if sorted(person for pair in some for person in pair) == least)


def parts_of(group, some):
    left = [person for person in least_of(group) if person not in some]
    lots = {person: {person} for person in left}
    for one, other in combinations(left, 2):
        if may(group, one, other):
            for person in lots[one] | lots[other]:
                lots[person] = lots[one] | lots[other] | lots[person]
    for _ in left:
        for person in left:
            for other in sorted(lots[person]):
                lots[other] = lots[other] | lots[person]
    return sorted({tuple(sorted(lot)) for lot in lots.values()})


def barrier_of(group):
    if matchings_of(group):
        return None
    least = least_of(group)
    for many in range(len(least) + 1):
        for some in combinations(least, many):
            if sum(len(part) % 2 for part in parts_of(group, some)) > many:
                return some
    raise AssertionError("there is always one")


def plans_of(group):
    """All plans."""
    if group.shared():
        return [()]
    return [(matching, *levels) for matching in matchings_of(group)
            for levels in plans_of(behind(group, matching))]


def rounds_by_hand(levels):
    """The rounds of a plan, call by call."""
    laid = []
    for pair in [pair for matching in levels for pair in matching]:
        ahead = [at for at, other in laid if set(other) & set(pair)]
        laid.append((max(ahead, default=-1) + 1, pair))
    many = max([at for at, _ in laid], default=-1) + 1
    return [tuple(sorted(pair for at, pair in laid if at == end)) for end in range(many)]


def calls_in(levels):
    return sum(len(matching) for matching in levels)


def best_plan(group, by):
    """The levels that plan should tell, of all plans; None where there is none."""
    rows = []
    for levels in plans_of(group):
        counts = (calls_in(levels), len(rounds_by_hand(levels)))
        rows.append((counts if by == "calls" else counts[::-1], levels))
    return min(rows)[1] if rows else None


def with_state(group, state):
    """The group in which the people hold what this state tells."""
    held = dict(zip(group.people(), state))
    leaves = {page: group.leaves(page) for page in group.pages()}
    return Group(held, leaves=leaves, barred=group.barred())


def paper_of(group):
    """The paper, state by state, whether there is a plan or not."""
    rows = {}
    ahead = [group]
    while ahead:
        now = ahead.pop()
        rows[now.state()] = barrier_of(now)
        ahead.extend(behind(now, matching) for matching in matchings_of(now) if matching)
    return {state: rows[state] for state in sorted(rows)}


def rows_from(group):
    """A dict from the rising rows of all rows of even calls to the groups behind them."""
    found = {(): group}
    ahead = [()]
    while ahead:
        row = ahead.pop()
        for pair in combinations(group.people(), 2):
            if may(found[row], *pair):
                longer = tuple(rising(group, [*row, pair]))
                if longer not in found:
                    found[longer] = called(found[row], *pair)
                    ahead.append(longer)
    return found


def most_of(rows, person):
    """What most should tell, of all rising rows and the groups behind them."""
    best = min((-now.weight(person), len(row), row) for row, now in rows.items())
    return (-best[0], list(best[2]))


def together_of(rows, pages):
    """What together should tell, of all rising rows and the groups behind them."""
    groups = rows.values()
    return [person for person in rows[()].people()
            if any(set(pages) <= set(now.held(person)) for now in groups)]


def with_written(group, row):
    """The group in which people write so many pages each, a new one after the other."""
    held = {person: list(group.held(person)) for person in group.people()}
    letters = [letter for letter in "abcdefghijklmnopqrstuvwxyz" if letter not in group.pages()]
    for person, many in zip(group.people(), row):
        for _ in range(many):
            held[person].append(letters.pop(0))
    leaves = {page: group.leaves(page) for page in group.pages()}
    return Group(held, leaves=leaves, barred=group.barred())


def rows_of(many, total):
    """The rising list of rows of so many numbers that come to the total."""
    return sorted(row for row in product(range(total + 1), repeat=many) if sum(row) == total)


def can_share(lots, sizes, barred=()):
    """Whether by some even calls all come to hold all: lots are numbers, a bit for each page."""
    weights = {}

    def weight(lot):
        if lot not in weights:
            weights[lot] = sum(size for at, size in enumerate(sizes) if lot >> at & 1)
        return weights[lot]

    full = 0
    for lot in lots:
        full |= lot
    seen = {tuple(lots)}
    ahead = [tuple(lots)]
    while ahead:
        now = ahead.pop()
        if all(lot == full for lot in now):
            return True
        for one, other in combinations(range(len(now)), 2):
            even = now[one] != now[other] and weight(now[one]) == weight(now[other])
            if even and (one, other) not in barred:
                later = list(now)
                later[one] = later[other] = now[one] | now[other]
                if tuple(later) not in seen:
                    seen.add(tuple(later))
                    ahead.append(tuple(later))
    return False


def lots_of(group):
    """The lots of the group's people, and the sizes of its pages."""
    pages = group.pages()
    lots = [sum(1 << pages.index(page) for page in group.held(person))
            for person in group.people()]
    return lots, [group.leaves(page) for page in pages]


def writing_of(group, most):
    """The least row of so few numbers that by these writings all can share; None beyond most."""
    people = group.people()
    barred = [tuple(people.index(person) for person in pair) for pair in group.barred()]
    for total in range(most + 1):
        for row in rows_of(len(group), total):
            lots, sizes = lots_of(group)
            for at, many in enumerate(row):
                for _ in range(many):
                    lots[at] |= 1 << len(sizes)
                    sizes.append(1)
            if can_share(lots, sizes, barred):
                return dict(zip(people, row))
    return None
