"""Rounds told ahead, by which people with a page each share all."""

from evenhands.errors import NoNumber
from evenhands.groups import LETTERS, MOST_PEOPLE, Group, is_number, rising_pair

MOST_TOLD = 64


def _check_number(many, most):
    """Raise NoNumber of what is no number from 1 to the most; of anything."""
    if not is_number(many, 1, most):
        raise NoNumber(f"a number from 1 to {most} is asked")


def _told_round(half, ahead):
    """The rising list of the pairs of a round by which each calls so far ahead."""
    return sorted([rising_pair(2 * at, 2 * ((at + ahead) % half) + 1) for at in range(half)])


def told_rounds(many):
    """The list of rounds by which an even number of people share all; NoNumber."""
    _check_number(many, MOST_TOLD)
    if many % 2 == 1:
        raise NoNumber("an even number is asked")
    rounds = []
    pages = 1
    while pages < many:
        # So many pages each holds by then, side by side: the next ones are so far ahead.
        rounds.append(_told_round(many // 2, pages - 1))
        pages = pages * 2
    return rounds


def fewest_calls(many):
    """The fewest calls by which so many people with a page each share all, or None; NoNumber."""
    _check_number(many, MOST_TOLD)
    if many == 1:
        return 0
    if many % 2 == 1:
        return None
    # By a call one comes to twice its pages at most: so each needs as many as there are rounds.
    return many // 2 * len(told_rounds(many))


def round_group(many):
    """The Group of so many people a, b, .. with a page each, called like them; NoNumber."""
    _check_number(many, MOST_PEOPLE)
    return Group({letter: [letter] for letter in LETTERS[:many]})
