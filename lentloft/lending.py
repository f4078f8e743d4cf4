"""Lending: what one file has is had by another one too, and no content is laid for it."""

from lentloft.errors import NoPlace, Unlike
from lentloft.files import File, runs
from lentloft.kinds import is_place, is_some, need
from lentloft.spans import joined


def need_one_pool(one, other):
    """Refuse two files of two pools."""
    if one.pool() != other.pool():
        raise Unlike()


def lend(source, at, many, target, to):
    """Make so many places of the target, from to on, what those of the source, from at on, are."""
    need(
        isinstance(source, File), is_place(at), is_some(many),
        isinstance(target, File), is_place(to),
    )
    need_one_pool(source, target)
    if at + many > source.size():
        raise NoPlace(at)
    lent = {place - at + to: source.grain_at(place) for place in source.held_in(at, at + many)}
    target.need_places(to, many, len(lent))
    target.put(to, many, lent)


def copied(file):
    """Tell a new file that has all that a file has."""
    need(isinstance(file, File))
    new = File(file.pool())
    # There is nothing to lend of a file without places, and lending nothing is refused.
    if file.size() > 0:
        lend(file, 0, file.size(), new, 0)
    return new


def shared(one, other):
    """Tell which places of the one have grains that the other one has too, beside its least places that do."""
    need(isinstance(one, File), isinstance(other, File))
    need_one_pool(one, other)
    least = {}
    for place in other.held_in(0, other.size()):
        least.setdefault(other.grain_at(place), place)
    places = [place for place in one.held_in(0, one.size()) if one.grain_at(place) in least]
    return runs([(place, least[one.grain_at(place)]) for place in places])


def differs(one, other):
    """Tell the places at which two files read unlike, and those that just one of them has, as a normal list."""
    need(isinstance(one, File), isinstance(other, File))
    end, behind = sorted([one.size(), other.size()])
    # Where both have holes both read 0, so just what one of them holds is looked at.
    places = sorted(set(one.held_in(0, end) + other.held_in(0, end)))
    unlike = [(place, place + 1) for place in places if one.content_at(place) != other.content_at(place)]
    return joined(unlike + [(end, behind)])
