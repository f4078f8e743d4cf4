"""Files: places with holes and with grains of a pool.

A file keeps just the places that are no holes, so nothing here goes place by place over its size.
"""

from lentloft.errors import NoPlace, NoRoom, TooFull
from lentloft.kinds import MOST_HELD, TOP_PLACE, are_contents, is_few, is_grain, is_place, need
from lentloft.pool import Pool
from lentloft.spans import joined


def are_takeable(thing):
    """Tell whether a thing is a list of grains and Nones that a file can take."""
    if not isinstance(thing, list) or not 1 <= len(thing) <= MOST_HELD:
        return False
    return all(grain is None or is_grain(grain) for grain in thing)


def runs(pairs):
    """Tell pairs of numbers, whose first ones rise, as tuples (first, many, second), as few as can be.

    Each tuple tells so many pairs, of which each next one has both numbers one greater.
    """
    told = []
    for first, second in pairs:
        if told:
            begin, many, there = told[-1]
            if first == begin + many and second == there + many:
                told[-1] = (begin, many + 1, there)
                continue
        told.append((first, 1, second))
    return told


class File:
    """A size, and at some of the places ahead of it a grain of the pool, which is held once for each place."""

    def __init__(self, pool):
        need(isinstance(pool, Pool))
        self.home = pool
        self.end = 0
        self.grains = {}

    def pool(self):
        """Tell the pool whose grains these are."""
        return self.home

    def size(self):
        """Tell the size."""
        return self.end

    def resize(self, size):
        """Let the places from a size on go, or add holes up to it."""
        need(is_place(size))
        self.empty(size, self.end)
        self.end = size

    def make_holes(self, at, many):
        """Make holes of so many places from a place on, as far as the size goes."""
        need(is_place(at), is_place(many))
        self.empty(at, at + many)

    def write(self, at, contents):
        """Lay contents from a place on, when what was there is let go."""
        need(is_place(at), are_contents(contents))
        many = len(contents)
        self.need_places(at, many, many)
        if many > self.home.left() + self.freed_in(at, at + many):
            raise NoRoom()
        self.empty(at, at + many)
        for place, content in enumerate(contents, start=at):
            self.grains[place] = self.home.lay(content)
        self.end = max(self.end, at + many)

    def take(self, at, grains):
        """Have the told grains, or holes for Nones, from a place on."""
        need(is_place(at), are_takeable(grains))
        taken = {place: grain for place, grain in enumerate(grains, start=at) if grain is not None}
        for place in taken:
            self.home.need_kept(taken[place])
        self.need_places(at, len(grains), len(taken))
        self.put(at, len(grains), taken)

    def read(self, at, many):
        """Tell the contents of so many places from a place on, as far as the size goes."""
        need(is_place(at), is_few(many))
        return [self.content_at(place) for place in range(at, min(at + many, self.end))]

    def grain_at(self, place):
        """Tell the grain at a place, None where there is none."""
        need(is_place(place))
        return self.grains.get(place)

    def held(self):
        """Tell the places that are no holes as a normal list."""
        return joined([(place, place + 1) for place in sorted(self.grains)])

    def pieces(self):
        """Tell the places that are no holes, and their grains, as pieces (place, many, grain)."""
        return runs(sorted(self.grains.items()))

    def content_at(self, place):
        """Tell what is read at a place."""
        if place not in self.grains:
            return 0
        return self.home.content_of(self.grains[place])

    def held_in(self, at, behind):
        """Tell the places from at on and ahead of behind that are no holes, rising."""
        return [place for place in sorted(self.grains) if at <= place < behind]

    def freed_in(self, at, behind):
        """Tell how many grains are let free where the places from at on and ahead of behind let theirs go."""
        going = [self.grains[place] for place in self.held_in(at, behind)]
        return len({grain for grain in going if going.count(grain) == self.home.holds(grain)})

    def same_in(self, pool):
        """Tell a file of a copied pool that has what this one has; the pool has it held already."""
        new = File(pool)
        new.end = self.end
        new.grains = dict(self.grains)
        return new

    def need_places(self, at, many, held):
        """Refuse to hold so many of many places from a place on where these end too far, or it is too much then."""
        if at + many > TOP_PLACE:
            raise NoPlace(at)
        if len(self.grains) - len(self.held_in(at, at + many)) + held > MOST_HELD:
            raise TooFull()

    def empty(self, at, behind):
        """Make holes of the places from at on and ahead of behind, and let their grains go."""
        for place in self.held_in(at, behind):
            self.home.let_go(self.grains[place])
            del self.grains[place]

    def put(self, at, many, grains):
        """Have grains, told by their places, at many places from a place on, and holes at the others of these."""
        # What goes may be what comes: held first, it isn't let free in between.
        for place in grains:
            self.home.hold(grains[place])
        self.empty(at, at + many)
        self.grains.update(grains)
        self.end = max(self.end, at + many)
