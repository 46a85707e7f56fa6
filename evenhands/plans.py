"""Plans by which all come to hold all, and the paper that there is none."""

from evenhands.errors import NoCall, NoWay
from evenhands.matchings import Table, all_behind

CALLS = "calls"
ROUNDS = "rounds"


def _ends_behind(ends, matching):
    """The rounds of all people's last calls behind a matching, from those ahead of it."""
    later = list(ends)
    for one, other in matching:
        later[one] = later[other] = max(ends[one], ends[other]) + 1
    return tuple(later)


class Ways:
    """All ways on from a group by matchings of the least ones, one after the other.

    What is told of one state is worked out once: many ways come to alike states.
    """

    def __init__(self, group):
        self.table = Table(group)
        self._steps = {}
        self._can_end = {}
        self._fewest = {}
        self._many = {}
        self._best = {}

    def steps(self, lots):
        """The list of the pairs (matching, lots behind it) of the matchings of these lots."""
        if lots not in self._steps:
            # The matching of nobody, where all hold all, leads nowhere.
            found = [matching for matching in self.table.pairings(lots) if matching != ()]
            self._steps[lots] = [(matching, self.table.lots_behind(lots, matching))
                                 for matching in found]
        return self._steps[lots]

    def is_end(self, lots):
        """Whether all hold all."""
        return self.table.lightest(lots) == []

    def can_end(self, lots):
        """Whether there is a plan from these lots."""
        if lots not in self._can_end:
            self._can_end[lots] = self._can_end_now(lots)
        return self._can_end[lots]

    def _can_end_now(self, lots):
        if self.is_end(lots):
            return True
        for _, later in self.steps(lots):
            if self.can_end(later):
                return True
        return False

    def fewest(self, lots):
        """How few calls a plan from these lots takes, None where there is no plan."""
        if lots not in self._fewest:
            self._fewest[lots] = self._fewest_now(lots)
        return self._fewest[lots]

    def _fewest_now(self, lots):
        if self.is_end(lots):
            return 0
        counts = [len(matching) + self.fewest(later) for matching, later in self._good(lots)]
        return min(counts, default=None)

    def _good(self, lots):
        """The steps from these lots behind which there is a plan."""
        return [step for step in self.steps(lots) if self.fewest(step[1]) is not None]

    def many(self, lots):
        """How many plans from these lots there are."""
        if lots not in self._many:
            self._many[lots] = self._many_now(lots)
        return self._many[lots]

    def _many_now(self, lots):
        if self.is_end(lots):
            return 1
        return sum([self.many(later) for _, later in self.steps(lots)])

    def _steps_by(self, lots, by):
        """The steps from these lots that may lead to a best plan."""
        good = self._good(lots)
        if by == ROUNDS:
            return good
        fewest = self.fewest(lots)
        return [step for step in good if len(step[0]) + self.fewest(step[1]) == fewest]

    def best(self, lots, ends, by):
        """The triple (rounds of all, calls from here on, levels from here on) of the best plan.

        The ends are the rounds of the people's last calls. There has to be a plan.
        """
        key = (lots, ends, by)
        if key not in self._best:
            self._best[key] = self._best_now(lots, ends, by)
        return self._best[key]

    def _best_now(self, lots, ends, by):
        if self.is_end(lots):
            return (max(ends), 0, ())
        found = []
        for matching, later in self._steps_by(lots, by):
            rounds, calls, levels = self.best(later, _ends_behind(ends, matching), by)
            found.append((rounds, len(matching) + calls, (matching, *levels)))
        # By calls only steps to the fewest were taken, so that they are alike here.
        return min(found)


def _named_levels(table, levels):
    """The levels with names for numbers."""
    return tuple([_named_matching(table, matching) for matching in levels])


def _named_matching(table, matching):
    """The matching with names for numbers."""
    return tuple([table.named(pair) for pair in matching])


def _paper(ways):
    """The dict from the states one comes to, rising, to their barriers, or None."""
    rows = {}
    for lots in all_behind(ways.table.own_lots, ways.steps):
        rows[ways.table.state_of(lots)] = ways.table.least_block(lots)
    paper = {}
    for state in sorted(rows):
        some = rows[state]
        paper[state] = None if some is None else ways.table.named(some)
    return paper


def plan(group, *, by=CALLS):
    """("plan", levels) of the best plan, by calls or by rounds; else ("none", paper); NoWay."""
    if by not in (CALLS, ROUNDS):
        raise NoWay("plans are asked by calls or by rounds")
    ways = Ways(group)
    own = ways.table.own_lots
    if ways.fewest(own) is None:
        return ("none", _paper(ways))
    levels = ways.best(own, (0,) * len(group), by)[2]
    return ("plan", _named_levels(ways.table, levels))


def has_plan(group):
    """Whether there is a plan."""
    ways = Ways(group)
    return ways.can_end(ways.table.own_lots)


def how_many(group):
    """How many plans there are."""
    ways = Ways(group)
    return ways.many(ways.table.own_lots)


def _numbered_steps(table, lots):
    """A dict from the matchings of the least ones, by names, to those by numbers."""
    return {_named_matching(table, matching): matching
            for matching in table.pairings(lots) if matching != ()}


def _matchings_of(table, levels):
    """The list of the matchings of a plan, by numbers; NoCall of anything that is none."""
    if not isinstance(levels, tuple):
        raise NoCall(0)
    lots = table.own_lots
    found = []
    for at, level in enumerate(levels):
        steps = _numbered_steps(table, lots)
        # It is looked for in a list: what holds a list or a dict can't be a key.
        if level not in list(steps):
            raise NoCall(at)
        found.append(steps[level])
        lots = table.lots_behind(lots, steps[level])
    if table.lightest(lots) != []:
        raise NoCall(len(levels))
    return found


def rounds_of(group, levels):
    """The list of the rounds of a plan, each a rising tuple of pairs; NoCall."""
    table = Table(group)
    ends = (0,) * len(group)
    rounds = {}
    for matching in _matchings_of(table, levels):
        ends = _ends_behind(ends, matching)
        for pair in matching:
            rounds.setdefault(ends[pair[0]], []).append(table.named(pair))
    return [tuple(sorted(rounds[end])) for end in sorted(rounds)]
