"""The least ones of a group: how they can be matched, and what shows that they can't."""

from evenhands.errors import NoPerson
from evenhands.groups import is_list


def _sets_of(numbers):
    """The list of all sets of these, rising tuples, smaller ones ahead, then rising."""
    sets = [()]
    for number in numbers:
        sets = sets + [(*some, number) for some in sets]
    return sorted(sorted(sets), key=len)


def all_behind(lots, steps):
    """The list of all lots one comes to from these, and these.

    Steps tells of lots the list of the pairs (calls, lots behind them).
    """
    found = {}
    ahead = [lots]
    while ahead:
        now = ahead.pop()
        if now not in found:
            found[now] = True
            ahead.extend([later for _, later in steps(now)])
    return list(found)


class Table:
    """A group in numbers, by which one goes through many states fast.

    People and pages are numbered from 0 on, as they rise, so that people's numbers rise as their
    names do. A lot is a number with a bit for each page that one holds; lots, a tuple of them,
    one for each person, are a state.
    """

    def __init__(self, group):
        self._names = group.people()
        self._pages = group.pages()
        self._sizes = [group.leaves(page) for page in self._pages]
        self._full = (1 << len(self._pages)) - 1
        self._bars = {}
        for pair in group.barred():
            one, other = self.numbers_of(pair)
            self._bars[(one, other)] = True
            self._bars[(other, one)] = True
        self._weights = {}
        self.own_lots = self.lots_of(group.state())

    def numbers_of(self, people):
        """The list of the numbers of these people."""
        return [self._names.index(person) for person in people]

    def named(self, numbers):
        """The tuple of the people with these numbers."""
        return tuple([self._names[at] for at in numbers])

    def lot_of(self, pages):
        """The lot of one who holds these unlike pages."""
        return sum([1 << self._pages.index(page) for page in pages])

    def lots_of(self, state):
        """The lots that a state is."""
        return tuple([self.lot_of(pages) for pages in state])

    def state_of(self, lots):
        """The state that these lots are."""
        return tuple([self._pages_of(lot) for lot in lots])

    def _pages_of(self, lot):
        """The rising tuple of the pages of a lot."""
        return tuple([page for at, page in enumerate(self._pages) if (lot >> at) & 1 == 1])

    def weight_of(self, lot):
        """How many leaves the pages of a lot have together."""
        if lot not in self._weights:
            sizes = [size for at, size in enumerate(self._sizes) if (lot >> at) & 1 == 1]
            self._weights[lot] = sum(sizes)
        return self._weights[lot]

    def lightest(self, lots):
        """The rising list of the least ones."""
        lacking = [at for at, lot in enumerate(lots) if lot != self._full]
        if lacking == []:
            return []
        least = min([self.weight_of(lots[at]) for at in lacking])
        return [at for at in lacking if self.weight_of(lots[at]) == least]

    def joined(self, lots, one, other):
        """Whether these two may call, who weigh the same."""
        return lots[one] != lots[other] and (one, other) not in self._bars

    def pairings(self, lots):
        """The rising list of the matchings of the least ones."""
        return self._paired(lots, self.lightest(lots))

    def _paired(self, lots, left):
        """The rising list of the ways to pair all of these."""
        if left == []:
            return [()]
        one = left[0]
        found = []
        for other in left[1:]:
            if self.joined(lots, one, other):
                others = [at for at in left[1:] if at != other]
                found.extend([((one, other), *more) for more in self._paired(lots, others)])
        return found

    def lots_behind(self, lots, matching):
        """The lots behind the calls of a matching."""
        later = list(lots)
        for one, other in matching:
            later[one] = later[other] = lots[one] | lots[other]
        return tuple(later)

    def pieces(self, lots, without):
        """The rising list of the parts of the least ones without these, rising tuples."""
        left = [at for at in self.lightest(lots) if at not in without]
        found = []
        while left:
            piece = self._piece(lots, left)
            found.append(tuple(piece))
            left = [at for at in left if at not in piece]
        return found

    def _piece(self, lots, left):
        """The rising list of those of these who are in one part with the first."""
        piece = [left[0]]
        at = 0
        while at < len(piece):
            more = [other for other in left
                    if other not in piece and self.joined(lots, piece[at], other)]
            piece.extend(more)
            at += 1
        return sorted(piece)

    def least_block(self, lots):
        """None where the least ones have a matching, else the barrier of them."""
        if self.pairings(lots) != []:
            return None
        sets = _sets_of(self.lightest(lots))
        # By Tutte's theorem one of these is found: just such sets keep a matching away.
        at = 0
        while not self.blocks(lots, sets[at]):
            at += 1
        return sets[at]

    def blocks(self, lots, some):
        """Whether more parts of an odd number are left without these than they are."""
        odd = [piece for piece in self.pieces(lots, some) if len(piece) % 2 == 1]
        return len(odd) > len(some)


def least_ones(group):
    """The rising list of those of the least weight among the people who don't hold all."""
    table = Table(group)
    return list(table.named(table.lightest(table.own_lots)))


def matchings(group):
    """The rising list of the matchings of the least ones."""
    table = Table(group)
    return [tuple([table.named(pair) for pair in matching])
            for matching in table.pairings(table.own_lots)]


def parts(group, some):
    """The rising list of the parts into which the least ones without these fall; NoPerson."""
    if not is_list(some):
        raise NoPerson(None)
    least = least_ones(group)
    for person in some:
        if person not in least:
            raise NoPerson(person)
    table = Table(group)
    pieces = table.pieces(table.own_lots, table.numbers_of(some))
    return [table.named(piece) for piece in pieces]


def barrier(group):
    """None where the least ones have a matching, else the least set that keeps one away."""
    table = Table(group)
    some = table.least_block(table.own_lots)
    return None if some is None else table.named(some)
