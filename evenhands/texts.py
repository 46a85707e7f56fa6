"""Groups as texts, a row for each person, page of several leaves and barred pair."""

from evenhands.errors import NoText
from evenhands.groups import MOST_PAGES, MOST_PEOPLE, Group, is_name

# The words of the rows, in the order of their lots.
WORDS = ("hold", "page", "bar")
# A page of one leaf has no row.
FIGURES = "23456789"


def group_text(group):
    """The text of a group."""
    rows = [["hold", person, *group.held(person)] for person in group.people()]
    rows.extend([["page", page, str(group.leaves(page))]
                 for page in group.pages() if group.leaves(page) > 1])
    rows.extend([["bar", *pair] for pair in group.barred()])
    return "".join([" ".join(row) + "\n" for row in rows])


def _are_rising(words):
    """Whether each is less than the one behind it."""
    return all([one < other for one, other in zip(words, words[1:])])


class Reader:
    """What the rows of a text have told so far."""

    def __init__(self):
        self._held = {}
        self._leaves = {}
        self._barred = []
        # The word of the last row, and what stood behind it.
        self._word = WORDS[0]
        self._last = []

    def takes(self, row):
        """Whether the row can stand behind those ahead; if so, it is taken in."""
        word, *things = row.split(" ")
        if word not in WORDS or not self._is_next(word, things):
            return False
        if not self._fits(word, things):
            return False
        self._take(word, things)
        self._word = word
        self._last = things
        return True

    def _is_next(self, word, things):
        """Whether such a row is in order behind the last one."""
        if word != self._word:
            return WORDS.index(self._word) < WORDS.index(word)
        # A person or a page has one row; one of a pair may have several.
        if word == "bar":
            return self._last < things
        return self._last[:1] < things[:1]

    def _fits(self, word, things):
        """Whether what stands behind the word has the right form, and can be so."""
        if word == "hold":
            return self._fits_person(things)
        if len(things) != 2:
            return False
        if word == "page":
            return things[0] in self._pages() and len(things[1]) == 1 and things[1] in FIGURES
        return _are_rising(things) and all([person in self._held for person in things])

    def _fits_person(self, things):
        """Whether one person more can hold these pages."""
        if things == [] or not all([is_name(name) for name in things]):
            return False
        pages = things[1:]
        there = sorted(set(self._pages() + pages))
        return (_are_rising(pages) and len(self._held) < MOST_PEOPLE
                and len(there) <= MOST_PAGES)

    def _pages(self):
        """The list of the pages that somebody holds, as often as they are held."""
        return [page for pages in self._held.values() for page in pages]

    def _take(self, word, things):
        if word == "hold":
            self._held[things[0]] = things[1:]
        elif word == "page":
            self._leaves[things[0]] = int(things[1])
        else:
            self._barred.append((things[0], things[1]))

    def group(self):
        """The group of all rows."""
        return Group(self._held, leaves=self._leaves, barred=self._barred)


def read_group(text):
    """The Group of a text; NoText."""
    if not isinstance(text, str):
        raise NoText(0)
    reader = Reader()
    *rows, left = text.split("\n")
    for at, row in enumerate(rows):
        if not reader.takes(row):
            raise NoText(at)
    if left != "" and reader.takes(left):
        raise NoText(len(rows) + 1)
    if left != "" or rows == []:
        raise NoText(len(rows))
    return reader.group()
