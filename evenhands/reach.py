"""What people can come to hold by even calls, whether all come to hold all or not."""

from evenhands.errors import NoPage
from evenhands.groups import is_list
from evenhands.matchings import Table, all_behind


class Climb:
    """All rising rows of even calls of a group, weight by weight.

    Behind a weight nobody calls at it, or below it, any more. Who stays there is left without
    pages in the lots, so that unlike rows come to alike lots: with no pages nobody calls.
    """

    def __init__(self, group):
        self.table = Table(group)

    def _lowest(self, lots):
        """The rising list of the least of those who have pages."""
        there = [at for at, lot in enumerate(lots) if lot != 0]
        weights = [self.table.weight_of(lots[at]) for at in there]
        return [at for at, weight in zip(there, weights) if weight == min(weights)]

    def _some_pairs(self, lots, left):
        """The list of all rising tuples of rising pairs of some of these, who may call."""
        if left == []:
            return [()]
        one = left[0]
        found = self._some_pairs(lots, left[1:])
        for other in left[1:]:
            if self.table.joined(lots, one, other):
                others = [at for at in left[1:] if at != other]
                found.extend([((one, other), *more) for more in self._some_pairs(lots, others)])
        return found

    def steps(self, lots):
        """The list of the pairs (calls at the least weight, lots behind it)."""
        lowest = self._lowest(lots)
        if lowest == []:
            return []
        left = [0 if at in lowest else lot for at, lot in enumerate(lots)]
        return [(calls, self._lots_behind(lots, left, calls))
                for calls in self._some_pairs(lots, lowest)]

    def _lots_behind(self, lots, left, calls):
        """The lots behind these calls, of those that are left without them."""
        later = list(left)
        for one, other in calls:
            later[one] = later[other] = lots[one] | lots[other]
        return tuple(later)


class Way:
    """The best rows for one person; what is told of the same lots is worked out once."""

    def __init__(self, group, person):
        self.climb = Climb(group)
        self._who = group.people().index(person)
        self._best = {}

    def best(self, lots):
        """The triple (the greatest weight, below 0, the fewest calls to it, the least row)."""
        if lots not in self._best:
            self._best[lots] = self._best_now(lots)
        return self._best[lots]

    def _best_now(self, lots):
        found = [(-self.climb.table.weight_of(lots[self._who]), 0, ())]
        for calls, later in self.climb.steps(lots):
            # Who has no pages any more comes to nothing.
            if later[self._who] != 0:
                weight, many, row = self.best(later)
                found.append((weight, len(calls) + many, (*calls, *row)))
        return min(found)


def most(group, person):
    """The pair of the greatest weight the person can come to, and of the row by which; NoPerson."""
    group.held(person)
    way = Way(group, person)
    table = way.climb.table
    weight, _, row = way.best(table.own_lots)
    return (-weight, [table.named(pair) for pair in row])


def together(group, pages):
    """The rising list of those who can come to hold all of these pages; NoPage."""
    if not is_list(pages):
        raise NoPage(None)
    for page in pages:
        group.leaves(page)
    climb = Climb(group)
    wanted = climb.table.lot_of(sorted(set(pages)))
    everything = all_behind(climb.table.own_lots, climb.steps)
    return [person for at, person in enumerate(group.people())
            if any([(lots[at] & wanted) == wanted for lots in everything])]
