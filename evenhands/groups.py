"""Groups of people, and the pages that each of them holds."""

from evenhands.errors import BadGroup, NoPage, NoPerson

LETTERS = "abcdefghijklmnopqrstuvwxyz"
MOST_LETTERS = 6
MOST_PEOPLE = 6
MOST_PAGES = 12
MOST_LEAVES = 9


def is_name(thing):
    """Whether it is a name, a text of 1 to 6 small letters; of anything."""
    if not isinstance(thing, str) or not 1 <= len(thing) <= MOST_LETTERS:
        return False
    return all([letter in LETTERS for letter in thing])


def is_list(thing):
    """Whether it may stand where a list is handed in; of anything."""
    return isinstance(thing, (list, tuple))


def is_pair(thing):
    """Whether it is a tuple of two things; of anything."""
    return isinstance(thing, tuple) and len(thing) == 2


def is_number(thing, least, most):
    """Whether it is a number from the least to the most; of anything."""
    # To Python True is the number 1; here truths are no numbers.
    if not isinstance(thing, int) or isinstance(thing, bool):
        return False
    return least <= thing <= most


def are_leaves(thing):
    """Whether it is a number of leaves that a page may have; of anything."""
    return is_number(thing, 1, MOST_LEAVES)


def rising_pair(one, other):
    """The pair of two names, the lesser one ahead."""
    return (min(one, other), max(one, other))


def pairs_of(people):
    """The rising list of all pairs of these people, a rising list."""
    return [(one, other) for at, one in enumerate(people) for other in people[at + 1:]]


def _are_pages(thing):
    """Whether it is a list of unlike names; of anything."""
    if not is_list(thing) or not all([is_name(page) for page in thing]):
        return False
    return len(set(thing)) == len(thing)


def _pages_in(held):
    """The rising list of the pages that somebody holds."""
    return sorted({page for pages in held.values() for page in pages})


def _clean_held(held):
    """What each person holds, people and pages rising; BadGroup(0) of anything else."""
    if not isinstance(held, dict) or not 1 <= len(held) <= MOST_PEOPLE:
        raise BadGroup(0)
    for person, pages in held.items():
        if not is_name(person) or not _are_pages(pages):
            raise BadGroup(0)
    if len(_pages_in(held)) > MOST_PAGES:
        raise BadGroup(0)
    return {person: tuple(sorted(held[person])) for person in sorted(held)}


def _clean_leaves(leaves, pages):
    """How many leaves each of the pages has; BadGroup(1) of anything else."""
    rows = list(leaves.items()) if isinstance(leaves, dict) else leaves
    if not is_list(rows):
        raise BadGroup(1)
    told = {}
    for row in rows:
        if not is_pair(row) or row[0] not in pages or not are_leaves(row[1]):
            raise BadGroup(1)
        if row[0] in told:
            raise BadGroup(1)
        told[row[0]] = row[1]
    return {page: told.get(page, 1) for page in pages}


def _clean_barred(barred, people):
    """The rising list of the barred pairs, rising; BadGroup(2) of anything else."""
    if not is_list(barred):
        raise BadGroup(2)
    for pair in barred:
        if not is_pair(pair) or pair[0] not in people or pair[1] not in people:
            raise BadGroup(2)
        if pair[0] == pair[1]:
            raise BadGroup(2)
    return sorted({rising_pair(one, other) for one, other in barred})


class Group:
    """People, their pages, the pages' leaves and who may not call whom.

    A group never changes: what alters it makes another one.
    """

    def __init__(self, held, *, leaves=(), barred=()):
        self._held = _clean_held(held)
        self._leaves = _clean_leaves(leaves, _pages_in(self._held))
        self._barred = _clean_barred(barred, list(self._held))

    def __eq__(self, other):
        return (isinstance(other, Group) and self._held == other._held
                and self._leaves == other._leaves and self._barred == other._barred)

    def __len__(self):
        return len(self._held)

    def people(self):
        """The rising list of the people."""
        return list(self._held)

    def pages(self):
        """The rising list of the pages that somebody holds."""
        return list(self._leaves)

    def held(self, person):
        """The rising tuple of the person's pages; NoPerson."""
        # Only texts are looked up: a list can't be a key.
        if not isinstance(person, str) or person not in self._held:
            raise NoPerson(person)
        return self._held[person]

    def weight(self, person):
        """How many leaves the person's pages have together; NoPerson."""
        return sum([self._leaves[page] for page in self.held(person)])

    def leaves(self, page):
        """How many leaves the page has; NoPage."""
        if not isinstance(page, str) or page not in self._leaves:
            raise NoPage(page)
        return self._leaves[page]

    def barred(self):
        """The rising list of the pairs who may not call, each rising."""
        return list(self._barred)

    def state(self):
        """The tuple of what the people hold, by their names, rising."""
        return tuple(self._held.values())

    def holders(self):
        """The rising list of those who hold all pages."""
        return [person for person, pages in self._held.items()
                if len(pages) == len(self._leaves)]

    def shared(self):
        """Whether all hold all."""
        return len(self.holders()) == len(self._held)


def all_held(group):
    """The dict from all people to the tuples of their pages."""
    return {person: group.held(person) for person in group.people()}


def all_leaves(group):
    """The dict from all pages to how many leaves they have."""
    return {page: group.leaves(page) for page in group.pages()}
