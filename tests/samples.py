"""Things to hand in, shared by the tests."""

TOP = 10 ** 12


class Stranger:
    """An object of a class that the program doesn't know."""


def no_wholes():
    """Things that are no whole numbers."""
    return [
        None, True, False, "", "0", "7", "a", "\n", b"", b"7", [], [0], [True], (), (0,), (0, 1), {}, {0: 1},
        set(), {0}, frozenset(), range(3), Stranger(), Stranger, len, ValueError("a"),
    ]


def no_places():
    """Things that are no places (and so no sizes and no counts)."""
    return no_wholes() + [-1, -TOP, TOP + 1, 10 ** 13, 10 ** 5000, -(10 ** 5000)]


def no_stretches():
    """Things that are no stretches."""
    return (
        [(place, 5) for place in no_places()]
        + [(0, place) for place in no_places()]
        + [(1, 0), (TOP, TOP - 1), (TOP, 0)]
        + [(), (0,), (0, 1, 2), [], [0, 1], [0], {0: 1}, "ab", b"ab", "", None, True, 0, 1, range(0, 2), {0, 1}]
        + [((0, 1), (2, 3)), ([0], [1]), ((0, 1),)]
    )


def no_lists():
    """Things that are no lists."""
    return [
        None, True, False, 0, 1, -1, TOP, 10 ** 5000, "", "ab", "[]", b"", (), (0, 1), ((0, 1),), ((0, 1), (3, 4)),
        {}, {0: 1}, {(0, 1): True}, {(0, 1): 2}.items(), set(), {(0, 1)}, frozenset(), range(0), range(2),
        iter([(0, 1)]), Stranger(), Stranger, len,
    ]


def unsteady_lists():
    """Lists of stretches that are no normal lists."""
    return [
        [(0, 0)], [(5, 5)], [(TOP, TOP)],
        [(0, 1), (1, 1)], [(0, 1), (2, 2)], [(0, 0), (1, 2)], [(0, 1), (3, 3), (5, 6)],
        [(0, 1), (1, 2)], [(0, 3), (3, 5)], [(0, 1), (5, 6), (6, 7)], [(0, TOP - 1), (TOP - 1, TOP)],
        [(0, 2), (1, 3)], [(0, 9), (2, 3)], [(0, 9), (0, 9)], [(2, 3), (0, 9)], [(0, 9), (8, 10)],
        [(5, 6), (0, 1)], [(0, 1), (5, 6), (3, 4)], [(3, 4), (0, 1), (5, 6)], [(5, 6), (3, 4), (0, 1)],
    ]


def no_normals():
    """Things that are no normal lists."""
    return (
        no_lists()
        + unsteady_lists()
        + [[thing] for thing in no_stretches()]
        + [[(6, 7), thing] for thing in no_stretches()]
        + [[(0, 1), (3, 4), thing] for thing in no_stretches()]
        + [[(2 * k, 2 * k + 1) for k in range(1500)] + [(2999, 3001)]]
    )


def places_of(stretches):
    """The set of all places of some stretches: the meaning that the answers are compared with."""
    return {place for first, behind in stretches for place in range(first, behind)}


def normal_of(places):
    """The normal list of a set of places, found place by place."""
    firsts = sorted(place for place in places if place - 1 not in places)
    behinds = sorted(place + 1 for place in places if place + 1 not in places)
    return list(zip(firsts, behinds))


def all_normals(size):
    """The normal lists of all sets of places ahead of a size."""
    return [normal_of({place for place in range(size) if mask >> place & 1}) for mask in range(1 << size)]


def moved(stretches, by):
    """Stretches so many places further on."""
    return [(first + by, behind + by) for first, behind in stretches]


def stretched(stretches, by):
    """Stretches so many times as long, and as far apart."""
    return [(first * by, behind * by) for first, behind in stretches]


def no_rooms():
    """Things that are no numbers of grains for which a pool may have room."""
    return no_wholes() + [0, -1, 121, 122, 10 ** 12, 10 ** 5000, -(10 ** 5000)]


def no_contents():
    """Things that are no contents."""
    return no_wholes() + [-1, 10 ** 9 + 1, 10 ** 12, 10 ** 5000, -(10 ** 5000)]


def no_grains():
    """Things that are no grains, kept or not."""
    return no_wholes() + [-1, -2, -(10 ** 12), -(10 ** 5000)]


def no_many_of(most):
    """Things that are no whole numbers from 0 to so many."""
    return no_wholes() + [-1, most + 1, most + 2, 10 ** 13, 10 ** 5000, -(10 ** 5000)]


def lists_with(bad, good, most):
    """Lists with one bad thing, at the first, some middle or the last place, of all lengths that matter."""
    told = [[bad], [bad, good], [good, bad], [good, bad, good], [bad, bad]]
    return told + [[good] * at + [bad] + [good] * (most - 1 - at) for at in (0, 1, most // 2, most - 2, most - 1)]


def no_writings():
    """Things that are no lists of 1 to 24 contents."""
    lists = [[], [0] * 25, [1] * 26, [7] * 1000, [[1]], [[1, 2]], [(1,)], [[]]]
    for thing in no_contents():
        lists += lists_with(thing, 5, 24)
    return no_lists() + [(1, 2), {1: 2}, {1, 2}, "12", b"12", range(1, 3)] + lists


def no_takings():
    """Things that are no lists of 1 to 60 grains or Nones."""
    lists = [[], [None] * 61, [0] * 61, [0] * 60 + [None], [None] * 1000, [[0]], [(0,)], [[]], [[None]]]
    for thing in no_grains():
        if thing is not None:
            lists += lists_with(thing, 0, 60) + lists_with(thing, None, 60)
    return no_lists() + [(0,), (None,), {0: None}, {0}, "0", b"0", range(1)] + lists


def no_names():
    """Things that are no names and no labels, "" among them."""
    texts = ["", "A", "aB", "a1", "0", "7", " ", "a ", " a", "a b", "-", "a-", "a/b", "abcdefghi", "a" * 5000, "a\n",
             "\n"]
    things = [thing for thing in no_wholes() if thing not in ("", "a", "0", "7", "\n")]
    return things + texts + [0, 1, -1, TOP, 10 ** 5000, ["a"], ("a",), {"a": "a"}, b"a"]


def no_wheres():
    """Things that are neither "" nor labels."""
    return [thing for thing in no_names() if thing != ""]


def no_objects():
    """Things that are neither pools nor files."""
    return no_wholes() + [0, 1, -1, TOP, 10 ** 5000, "pool", "file", object(), object]
