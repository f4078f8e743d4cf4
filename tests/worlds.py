"""A world of files of one pool told in the plainest way: each file a list with one cell for each place.

Its places are counted from a base on, so that what is done near the last place there can be is told alike.
"""

from tests.samples import TOP


class Refusal(Exception):
    """What should be refused: the name of the class, and what it is made of."""


def runs(pairs):
    """Pairs of numbers put together where both go on."""
    told = []
    for at, to in pairs:
        if told and (told[-1][0] + told[-1][1], told[-1][2] + told[-1][1]) == (at, to):
            told[-1][1] += 1
        else:
            told.append([at, 1, to])
    return [tuple(each) for each in told]


class World:
    def __init__(self, room, many, base=0):
        self.room = room
        self.base = base
        self.contents = {}
        self.beside = {}
        self.files = [[] for _ in range(many)]

    def times(self, grain):
        return sum(cells.count(grain) for cells in self.files) + self.beside.get(grain, 0)

    def sweep(self):
        """Nothing is kept that nobody holds."""
        self.contents = {grain: content for grain, content in self.contents.items() if self.times(grain)}

    def least(self):
        return min(grain for grain in range(self.room + 1) if grain not in self.contents)

    def lay(self, content):
        if len(self.contents) == self.room:
            raise Refusal("NoRoom")
        grain = self.least()
        self.contents[grain] = content
        self.beside[grain] = 1
        return grain

    def hold(self, grain):
        if grain not in self.contents:
            raise Refusal("NoGrain", grain)
        self.beside[grain] = self.beside.get(grain, 0) + 1

    def let_go(self, grain):
        if grain not in self.contents:
            raise Refusal("NoGrain", grain)
        self.beside[grain] -= 1
        self.sweep()
        return grain not in self.contents

    def resize(self, file, size):
        cells = self.files[file]
        self.files[file] = (cells + [None] * size)[:size]
        self.sweep()

    def make_holes(self, file, at, many):
        cells = self.files[file]
        for place in range(len(cells)):
            if at <= place < at + many:
                cells[place] = None
        self.sweep()

    def laid_over(self, file, at, cells):
        """The cells of a file behind a deed, or the refusal of their places."""
        if self.base + at + len(cells) > TOP:
            raise Refusal("NoPlace", self.base + at)
        new = list(self.files[file]) + [None] * (at + len(cells) - len(self.files[file]))
        new[at:at + len(cells)] = cells
        if len(new) - new.count(None) > 60:
            raise Refusal("TooFull")
        return new

    def write(self, file, at, contents):
        self.laid_over(file, at, ["some"] * len(contents))
        before = list(self.files[file]), dict(self.contents)
        self.make_holes(file, at, len(contents))
        if len(self.contents) + len(contents) > self.room:
            self.files[file], self.contents = before
            raise Refusal("NoRoom")
        grains = []
        for content in contents:
            grains.append(self.least())
            self.contents[grains[-1]] = content
        self.files[file] = self.laid_over(file, at, grains)

    def take(self, file, at, grains):
        for grain in grains:
            if grain is not None and grain not in self.contents:
                raise Refusal("NoGrain", grain)
        self.files[file] = self.laid_over(file, at, grains)
        self.sweep()

    def lend(self, source, at, many, target, to):
        if at + many > len(self.files[source]):
            raise Refusal("NoPlace", self.base + at)
        self.files[target] = self.laid_over(target, to, self.files[source][at:at + many])
        self.sweep()

    def copied(self, source, target):
        self.files[target] = list(self.files[source])
        self.sweep()

    def read(self, file):
        return [self.contents.get(grain, 0) for grain in self.files[file]]

    def pieces(self, file):
        cells = enumerate(self.files[file], start=self.base)
        return runs([(place, grain) for place, grain in cells if grain is not None])

    def shared(self, one, other):
        pairs = [(self.base + place, self.base + self.files[other].index(grain))
                 for place, grain in enumerate(self.files[one]) if grain is not None and grain in self.files[other]]
        return runs(pairs)

    def differs(self, one, other):
        """The places, counted from 0 as the cells are."""
        reads = self.read(one), self.read(other)
        least, most = sorted([len(reads[0]), len(reads[1])])
        return {place for place in range(most) if place >= least or reads[0][place] != reads[1][place]}
