"""Owing: what each file of a loft, living or frozen, owes of the grains that are kept.

An owner is a tuple (where, name). What owners have is told by their counts: for each owner, in order, how many of
its places hold each grain that it holds.
"""

from lentloft.errors import NoFile, NoLabel
from lentloft.kinds import is_grain, is_name, is_where, need
from lentloft.loft import Loft


def grains_of(loft, where, name):
    """Tell the places of a file that are no holes, by rising places, beside their grains."""
    pieces = loft.pieces(where, name)
    return [(place + k, grain + k) for place, many, grain in pieces for k in range(many)]


def all_owners(loft):
    """Tell the owners: those of the frozen states in the order of labels, then the living ones."""
    return [(where, name) for where in loft.labels() + [""] for name in loft.names(where)]


def counts_of(loft):
    """Tell for each owner, in order, how many of its places hold each grain that it holds."""
    counts = {}
    for where, name in all_owners(loft):
        own = {}
        for place, grain in grains_of(loft, where, name):
            own[grain] = own.get(grain, 0) + 1
        counts[(where, name)] = own
    return counts


def holding(counts, grain):
    """Tell the owners that hold a grain, in order."""
    return [owner for owner in counts if grain in counts[owner]]


def alone_part(counts, owner, grain):
    """Tell all of a grain that no other owner holds, as an amount."""
    return (1, 1) if holding(counts, grain) == [owner] else (0, 1)


def eldest_part(counts, owner, grain):
    """Tell all of a grain of which this is the first owner, as an amount."""
    return (1, 1) if holding(counts, grain)[0] == owner else (0, 1)


def even_part(counts, owner, grain):
    """Tell the same part of a grain as each of its owners owes, as an amount."""
    return (1, len(holding(counts, grain)))


def places_part(counts, owner, grain):
    """Tell the part of a grain that its owner's places are of all places that hold it, as an amount."""
    return (counts[owner][grain], sum([counts[other][grain] for other in holding(counts, grain)]))


RULES = {"alone": alone_part, "eldest": eldest_part, "even": even_part, "places": places_part}


def is_rule(thing):
    """Tell whether a thing is one of the four rules."""
    return isinstance(thing, str) and thing in RULES


def divisor_of(one, other):
    """Tell the greatest number that divides both."""
    while other > 0:
        one, other = other, one % other
    return one


def sum_of(amounts):
    """Tell amounts added up, in lowest terms."""
    top = 0
    bottom = 1
    for more, parts in amounts:
        top = top * parts + more * bottom
        bottom = bottom * parts
        common_part = divisor_of(top, bottom)
        top = top // common_part
        bottom = bottom // common_part
    return (top, bottom)


def owners(loft):
    """Tell the owners, as tuples (where, name), in order."""
    need(isinstance(loft, Loft))
    return all_owners(loft)


def holders(loft, grain):
    """Tell all places that hold a grain, as tuples (where, name, place), in the order of owners."""
    need(isinstance(loft, Loft), is_grain(grain))
    # A grain that isn't kept is refused by the loft.
    loft.content_of(grain)
    return [
        (where, name, place) for where, name in all_owners(loft)
        for place, there in grains_of(loft, where, name) if there == grain
    ]


def owes(loft, rule):
    """Tell what each owner owes by a rule, as tuples (where, name, amount)."""
    need(isinstance(loft, Loft), is_rule(rule))
    part_of = RULES[rule]
    counts = counts_of(loft)
    told = []
    for owner in counts:
        where, name = owner
        told.append((where, name, sum_of([part_of(counts, owner, grain) for grain in counts[owner]])))
    return told


def common(loft):
    """Tell how many grains two owners or more hold."""
    need(isinstance(loft, Loft))
    counts = counts_of(loft)
    return len([grain for grain in loft.kept() if len(holding(counts, grain)) > 1])


def is_owner(thing):
    """Tell whether a thing is a tuple (where, name), of a file that is there or not."""
    return isinstance(thing, tuple) and len(thing) == 2 and is_where(thing[0]) and is_name(thing[1])


def are_owners(thing):
    """Tell whether a thing is a list of tuples (where, name), none twice."""
    if not isinstance(thing, list) or not all(is_owner(each) for each in thing):
        return False
    return len(set(thing)) == len(thing)


def freed_by(loft, some):
    """Tell how many grains would be let free if these owners all went."""
    need(isinstance(loft, Loft), are_owners(some))
    counts = counts_of(loft)
    for where, name in some:
        if where != "" and where not in loft.labels():
            raise NoLabel(where)
        if (where, name) not in counts:
            raise NoFile(name)
    return len([grain for grain in loft.kept() if all(owner in some for owner in holding(counts, grain))])
