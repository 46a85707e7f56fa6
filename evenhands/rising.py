"""Rows of calls laid by the weights at which they are made."""

from evenhands.calls import behind, called
from evenhands.groups import rising_pair


def weights_of(group, calls):
    """The list of the weights that both have ahead of each call; NoCall."""
    behind(group, calls)
    weights = []
    now = group
    for one, other in calls:
        weights.append(now.weight(one))
        now = called(now, one, other)
    return weights


def _weighed(group, calls):
    """The rising list of pairs of a weight and a call made at it, a rising pair; NoCall."""
    weights = weights_of(group, calls)
    pairs = [rising_pair(one, other) for one, other in calls]
    return sorted(zip(weights, pairs))


def rising(group, calls):
    """The list of the same calls, rising pairs, by their weights, then by the pairs; NoCall."""
    return [pair for _, pair in _weighed(group, calls)]


def heights(group, calls):
    """The rising row parted by weights: a list of pairs (weight, tuple of pairs); NoCall."""
    levels = {}
    for weight, pair in _weighed(group, calls):
        levels.setdefault(weight, []).append(pair)
    return [(weight, tuple(pairs)) for weight, pairs in levels.items()]


def are_one(group, calls, others):
    """Whether two rows of calls have one rising row; NoCall of the first, then of the others."""
    return rising(group, calls) == rising(group, others)
