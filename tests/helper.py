"""What several test files need."""

from itertools import combinations, product

from evenhands.groups import Group

PEOPLE = ("ann", "bob", "cid")
PAGES = ("x", "y", "z")


def anything():
    """Things of all kinds, each time new ones; none is a person, page or call of the tests."""
    return [
        0, 1, -1, 2, 9, 10, 10 ** 30, True, False, None,
        "", " ", "ann ", " ann", "ann\n", "\n", "Ann", "ANN", "a1", "7", "a-b", "a_b", "~",
        "abcdefg", "ann bob", "zed",
        [], ["ann"], ["ann", "bob"], [["ann", "bob"]], [None], [[]], ["ann", ["x"]],
        (), ("ann",), ("ann", "zed"), ("ann", "ann"), ("ann", "bob", "cid"), (("ann", "bob"),),
        (1, 2), (None, None), ([], []), ({}, "ann"), ("ann", {}), ("ann", ["bob"]), (True, False),
        {}, {"ann": "x"}, {"ann": []}, {"x": 1}, {1: 2}, {None: ()}, {("ann", "bob"): [3]},
        {True: {}}, {"ann": {"x": [1]}},
    ]


def some_groups():
    """Groups of three people and three pages or fewer, of all ways to hold them."""
    lots = [some for many in range(4) for some in combinations(PAGES, many)]
    for row in product(lots, repeat=3):
        pages = {page for some in row for page in some}
        for leaves in ({}, {"x": 2}, {"x": 2, "y": 3}):
            told = {page: many for page, many in leaves.items() if page in pages}
            yield Group(dict(zip(PEOPLE, row)), leaves=told)


def told_of(group):
    """All that a group tells, as one value."""
    people = group.people()
    pages = group.pages()
    return (
        people, pages, [group.held(person) for person in people],
        [group.weight(person) for person in people], [group.leaves(page) for page in pages],
        group.barred(), group.state(), group.holders(), group.shared(), len(group),
    )


def refused(test, kind, fields, deed, *things, **named):
    """Check that the deed is refused with just this kind of error and these fields."""
    with test.assertRaises(kind) as caught:
        deed(*things, **named)
    test.assertIs(type(caught.exception), kind)
    for name, value in fields.items():
        field = getattr(caught.exception, name)
        test.assertEqual(field, value)
        test.assertIs(type(field), type(value))
