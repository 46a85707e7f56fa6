"""Calls of two people, by which both come to hold all that both held."""

from evenhands.errors import Barred, HandError, Idle, NoCall, Uneven
from evenhands.groups import Group, all_held, all_leaves, is_list, is_pair, rising_pair


def _leaves_beyond(group, pages, known):
    """How many leaves these pages have that aren't known yet."""
    return sum([group.leaves(page) for page in pages if page not in known])


def _all_weight(group):
    """How many leaves all pages of the group have."""
    return sum([group.leaves(page) for page in group.pages()])


def gain(group, one, other):
    """The pair of how many leaves one would get, and other; NoPerson, Barred."""
    ones = group.held(one)
    others = group.held(other)
    if one == other or rising_pair(one, other) in group.barred():
        raise Barred(f"{one} may not call {other}")
    return (_leaves_beyond(group, others, ones), _leaves_beyond(group, ones, others))


def _check_even(group, one, other):
    """Raise what the call is refused with, if it is."""
    gets, gives = gain(group, one, other)
    if gets == 0 and gives == 0:
        raise Idle(f"{one} and {other} hold the same pages")
    if gives != gets:
        raise Uneven(gives, gets)


def called(group, one, other):
    """The Group behind the call; refused as gain, then Idle, Uneven."""
    _check_even(group, one, other)
    held = all_held(group)
    both = sorted(set(held[one] + held[other]))
    held[one] = both
    held[other] = both
    return Group(held, leaves=all_leaves(group), barred=group.barred())


def may(group, one, other):
    """Whether the call would be done; of anything."""
    try:
        _check_even(group, one, other)
    except HandError:
        return False
    return True


def behind(group, calls):
    """The Group behind a list of calls, pairs; NoCall."""
    if not is_list(calls):
        raise NoCall(0)
    now = group
    for at, call in enumerate(calls):
        if not is_pair(call) or not may(now, call[0], call[1]):
            raise NoCall(at)
        now = called(now, call[0], call[1])
    return now


def _odd_lack(group):
    """Whether those who don't hold all are odd in number."""
    return (len(group) - len(group.holders())) % 2 == 1


def _sum_differs(group):
    """Whether the sum of all weights isn't odd or even as it is at the end."""
    weights = sum([group.weight(person) for person in group.people()])
    return (len(group) * _all_weight(group) - weights) % 2 == 1


def _kept_alone(group):
    """Whether some page is lacked, and held by such alone as hold all."""
    holders = group.holders()
    others = [person for person in group.people() if person not in holders]
    if others == []:
        return False
    return len({page for person in others for page in group.held(person)}) < len(group.pages())


def signs_against(group):
    """The list of the words that hold of odd, sum, alone, in this order."""
    words = []
    if _odd_lack(group):
        words.append("odd")
    if _sum_differs(group):
        words.append("sum")
    if _kept_alone(group):
        words.append("alone")
    return words
