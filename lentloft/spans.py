"""Stretches of places, and the normal lists of them.

Nothing here goes place by place: a stretch may have 10 ** 12 of them.
"""

from lentloft.kinds import TOP_PLACE, is_place, need

MOST_STRETCHES = 40


def is_stretch(thing):
    """Tell whether a thing is a tuple of two places, the first not above the second."""
    if not isinstance(thing, tuple) or len(thing) != 2:
        return False
    return is_place(thing[0]) and is_place(thing[1]) and thing[0] <= thing[1]


def are_stretches(thing):
    """Tell whether a thing is a list of stretches that is not too long."""
    if not isinstance(thing, list) or len(thing) > MOST_STRETCHES:
        return False
    return all(is_stretch(stretch) for stretch in thing)


def is_normal(thing):
    """Tell whether a thing is a normal list."""
    if not isinstance(thing, list):
        return False
    least = 0
    for stretch in thing:
        if not is_stretch(stretch):
            return False
        first, behind = stretch
        if first < least or first == behind:
            return False
        # Where the next one began at behind, the two would be one stretch.
        least = behind + 1
    return True


def joined(rising):
    """Make the normal list of stretches that are told by rising first places."""
    spans = []
    for first, behind in rising:
        if first == behind:
            continue
        if spans and first <= spans[-1][1]:
            start, end = spans[-1]
            spans[-1] = (start, max(end, behind))
        else:
            spans.append((first, behind))
    return spans


def spans_of(stretches):
    """Tell all places of a list of stretches."""
    need(are_stretches(stretches))
    return joined(sorted(stretches))


def either(one, other):
    """Tell the places that are in one of two normal lists, or in both."""
    need(is_normal(one), is_normal(other))
    return joined(sorted(one + other))


def both(one, other):
    """Tell the places that are in both of two normal lists."""
    need(is_normal(one), is_normal(other))
    spans = []
    at = 0
    to = 0
    while at < len(one) and to < len(other):
        first = max(one[at][0], other[to][0])
        behind = min(one[at][1], other[to][1])
        if first < behind:
            spans.append((first, behind))
        # The one that ends first can have nothing in common with what comes later.
        if one[at][1] < other[to][1]:
            at += 1
        else:
            to += 1
    return spans


def less(one, other):
    """Tell the places that are in the first of two normal lists but not in the second."""
    need(is_normal(one), is_normal(other))
    # No stretch goes beyond TOP_PLACE, so these gaps are all that the second doesn't have.
    return both(one, gaps(other, TOP_PLACE))


def gaps(one, size):
    """Tell the places ahead of a size that are not in a normal list."""
    need(is_normal(one), is_place(size))
    spans = []
    begin = 0
    for first, behind in one:
        end = min(first, size)
        if begin < end:
            spans.append((begin, end))
        begin = behind
    if begin < size:
        spans.append((begin, size))
    return spans


def many_in(one):
    """Tell how many places a normal list has."""
    need(is_normal(one))
    return sum(behind - first for first, behind in one)


def has_place(one, place):
    """Tell whether a place is in a normal list."""
    need(is_normal(one), is_place(place))
    return any(first <= place < behind for first, behind in one)
