"""A loft told in the plainest way: each file a list with one cell for each place, a grain or None.

Nothing is counted here: a grain is kept where some cell has it, and what is kept is looked up anew each time.
"""

import copy
from fractions import Fraction

from tests.samples import TOP, normal_of
from tests.worlds import Refusal, runs

NAMES = ("a", "b", "ba", "c", "zz", "kitchens", "loft", "d")
LABELS = ("s", "a", "t", "winter", "u", "v", "b")


class PlainLoft:
    def __init__(self, room):
        self.room = room
        self.living = {}
        self.frozen = []
        self.contents = {}

    def copied(self):
        return copy.deepcopy(self)

    # What is there.

    def labels(self):
        return [label for label, files in self.frozen]

    def files(self, where):
        if where == "":
            return self.living
        for label, files in self.frozen:
            if label == where:
                return files
        raise Refusal("NoLabel", where)

    def cells(self, where, name):
        files = self.files(where)
        if name not in files:
            raise Refusal("NoFile", name)
        return files[name]

    def owners(self):
        return [(where, name) for where in self.labels() + [""] for name in sorted(self.files(where))]

    def all_cells(self):
        return [cell for where, name in self.owners() for cell in self.cells(where, name) if cell is not None]

    def sweep(self):
        held = self.all_cells()
        self.contents = {grain: content for grain, content in self.contents.items() if grain in held}

    def lay(self, content):
        grain = min(grain for grain in range(self.room + 1) if grain not in self.contents)
        self.contents[grain] = content
        return grain

    # What is told.

    def names(self, where):
        return sorted(self.files(where))

    def size(self, where, name):
        return len(self.cells(where, name))

    def read_all(self, where, name):
        return [self.contents.get(cell, 0) for cell in self.cells(where, name)]

    def read(self, where, name, at, many):
        return self.read_all(where, name)[at:at + many]

    def held(self, where, name):
        return normal_of({place for place, cell in enumerate(self.cells(where, name)) if cell is not None})

    def pieces(self, where, name):
        return runs([(place, cell) for place, cell in enumerate(self.cells(where, name)) if cell is not None])

    def kept(self):
        return sorted(self.contents)

    def left(self):
        return self.room - len(self.contents)

    def content_of(self, grain):
        if grain not in self.contents:
            raise Refusal("NoGrain", grain)
        return self.contents[grain]

    def holds(self, grain):
        self.content_of(grain)
        return self.all_cells().count(grain)

    # What is done.

    def new_name(self, name):
        if name in self.living:
            raise Refusal("There", name)
        if len(self.living) == 6:
            raise Refusal("TooMany", 6)

    def make(self, name):
        self.new_name(name)
        self.living[name] = []

    def drop(self, name):
        self.cells("", name)
        del self.living[name]
        self.sweep()

    def resize(self, name, size):
        cells = self.cells("", name)
        self.living[name] = (cells + [None] * size)[:size]
        self.sweep()

    def laid_over(self, name, at, cells):
        """The cells of a living file behind a deed, or the refusal of their places."""
        if at + len(cells) > TOP:
            raise Refusal("NoPlace", at)
        old = self.cells("", name)
        new = old + [None] * (at + len(cells) - len(old))
        new[at:at + len(cells)] = cells
        if len(new) - new.count(None) > 60:
            raise Refusal("TooFull")
        return new

    def write(self, name, at, contents):
        self.laid_over(name, at, ["some"] * len(contents))
        old = self.living[name], self.contents
        self.hole(name, at, len(contents))
        if len(self.contents) + len(contents) > self.room:
            self.living[name], self.contents = old
            raise Refusal("NoRoom")
        self.living[name] = self.laid_over(name, at, [self.lay(content) for content in contents])

    def hole(self, name, at, many):
        cells = self.cells("", name)
        self.living[name] = [None if at <= place < at + many else cell for place, cell in enumerate(cells)]
        self.sweep()

    def lend(self, where, name, at, many, target, to):
        source = self.cells(where, name)
        self.cells("", target)
        if at + many > len(source):
            raise Refusal("NoPlace", at)
        self.living[target] = self.laid_over(target, to, source[at:at + many])
        self.sweep()

    def twin(self, where, name, new):
        source = self.cells(where, name)
        self.new_name(new)
        self.living[new] = list(source)

    def freeze(self, label):
        if label in self.labels():
            raise Refusal("There", label)
        if len(self.frozen) == 5:
            raise Refusal("TooMany", 5)
        self.frozen.append((label, copy.deepcopy(self.living)))

    def forget(self, label):
        self.files(label)
        self.frozen = [(each, files) for each, files in self.frozen if each != label]
        self.sweep()

    def back(self, label):
        self.living = copy.deepcopy(self.files(label))
        self.sweep()

    def exchange(self, grain, other):
        if self.content_of(grain) != self.content_of(other):
            raise Refusal("Unlike")
        for files in [self.living] + [files for label, files in self.frozen]:
            for name in files:
                files[name] = [other if cell == grain else cell for cell in files[name]]
        self.sweep()

    # Owing.

    def holders(self, grain):
        self.content_of(grain)
        return [(where, name, place) for where, name in self.owners()
                for place, cell in enumerate(self.cells(where, name)) if cell == grain]

    def owners_of(self, grain):
        return [owner for owner in self.owners() if grain in self.cells(*owner)]

    def owed(self, owner, grain, rule):
        holding = self.owners_of(grain)
        if owner not in holding:
            return Fraction(0)
        if rule == "alone":
            return Fraction(int(len(holding) == 1))
        if rule == "eldest":
            return Fraction(int(holding[0] == owner))
        if rule == "even":
            return Fraction(1, len(holding))
        return Fraction(self.cells(*owner).count(grain), self.all_cells().count(grain))

    def owes(self, rule):
        sums = [(owner, sum((self.owed(owner, grain, rule) for grain in self.contents), Fraction(0)))
                for owner in self.owners()]
        return [(where, name, (amount.numerator, amount.denominator)) for (where, name), amount in sums]

    def common(self):
        return sum(len(self.owners_of(grain)) > 1 for grain in self.contents)

    def freed_by(self, some):
        for where, name in some:
            self.cells(where, name)
        return sum(set(self.owners_of(grain)) <= set(some) for grain in self.contents)

    # Merging.

    def likes(self):
        alike = [[other for other in self.kept() if self.contents[other] == self.contents[grain]]
                 for grain in self.kept()]
        return [group for grain, group in zip(self.kept(), alike) if group[0] == grain and len(group) > 1]

    def merge(self, most):
        done = 0
        while done < most:
            alike = [(grain, least) for grain in self.kept() for least in self.kept()
                     if least < grain and self.contents[least] == self.contents[grain]]
            if not alike:
                break
            self.exchange(*min(alike))
            done += 1
        return done

    def part(self, name):
        self.cells("", name)
        trial = self.copied()
        laid = 0
        for place, cell in enumerate(trial.living[name]):
            if cell is not None and trial.all_cells().count(cell) > 1:
                if len(trial.contents) == trial.room:
                    raise Refusal("NoRoom")
                trial.living[name][place] = trial.lay(trial.contents[cell])
                laid += 1
        self.living, self.contents = trial.living, trial.contents
        return laid
