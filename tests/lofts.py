"""A loft told in the plainest way: each file a list with one cell for each place, a grain or None.

Nothing is counted here: a grain is kept where some cell has it, and what is kept is looked up anew each time.
"""

import copy
import re
from fractions import Fraction

from tests.samples import TOP, normal_of
from tests.worlds import Refusal, runs

NAMES = ("a", "b", "ba", "c", "zz", "kitchens", "loft", "d")
LABELS = ("s", "a", "t", "winter", "u", "v", "b")


class PlainLoft:
    def __init__(self, room):
        self.room = room
        self.living = {}
        self.frozen = []
        self.contents = {}

    def copied(self):
        return copy.deepcopy(self)

    # What is there.

    def labels(self):
        return [label for label, files in self.frozen]

    def files(self, where):
        if where == "":
            return self.living
        for label, files in self.frozen:
            if label == where:
                return files
        raise Refusal("NoLabel", where)

    def cells(self, where, name):
        files = self.files(where)
        if name not in files:
            raise Refusal("NoFile", name)
        return files[name]

    def owners(self):
        return [(where, name) for where in self.labels() + [""] for name in sorted(self.files(where))]

    def all_cells(self):
        return [cell for where, name in self.owners() for cell in self.cells(where, name) if cell is not None]

    def sweep(self):
        held = self.all_cells()
        self.contents = {grain: content for grain, content in self.contents.items() if grain in held}

    def lay(self, content):
        grain = min(grain for grain in range(self.room + 1) if grain not in self.contents)
        self.contents[grain] = content
        return grain

    # What is told.

    def names(self, where):
        return sorted(self.files(where))

    def size(self, where, name):
        return len(self.cells(where, name))

    def read_all(self, where, name):
        return [self.contents.get(cell, 0) for cell in self.cells(where, name)]

    def read(self, where, name, at, many):
        return self.read_all(where, name)[at:at + many]

    def held(self, where, name):
        return normal_of({place for place, cell in enumerate(self.cells(where, name)) if cell is not None})

    def pieces(self, where, name):
        return runs([(place, cell) for place, cell in enumerate(self.cells(where, name)) if cell is not None])

    def kept(self):
        return sorted(self.contents)

    def left(self):
        return self.room - len(self.contents)

    def content_of(self, grain):
        if grain not in self.contents:
            raise Refusal("NoGrain", grain)
        return self.contents[grain]

    def holds(self, grain):
        self.content_of(grain)
        return self.all_cells().count(grain)

    # What is done.

    def new_name(self, name):
        if name in self.living:
            raise Refusal("There", name)
        if len(self.living) == 6:
            raise Refusal("TooMany", 6)

    def make(self, name):
        self.new_name(name)
        self.living[name] = []

    def drop(self, name):
        self.cells("", name)
        del self.living[name]
        self.sweep()

    def resize(self, name, size):
        cells = self.cells("", name)
        self.living[name] = (cells + [None] * size)[:size]
        self.sweep()

    def laid_over(self, name, at, cells):
        """The cells of a living file behind a deed, or the refusal of their places."""
        if at + len(cells) > TOP:
            raise Refusal("NoPlace", at)
        old = self.cells("", name)
        new = old + [None] * (at + len(cells) - len(old))
        new[at:at + len(cells)] = cells
        if len(new) - new.count(None) > 60:
            raise Refusal("TooFull")
        return new

    def write(self, name, at, contents):
        self.laid_over(name, at, ["some"] * len(contents))
        old = self.living[name], self.contents
        self.hole(name, at, len(contents))
        if len(self.contents) + len(contents) > self.room:
            self.living[name], self.contents = old
            raise Refusal("NoRoom")
        self.living[name] = self.laid_over(name, at, [self.lay(content) for content in contents])

    def hole(self, name, at, many):
        cells = self.cells("", name)
        self.living[name] = [None if at <= place < at + many else cell for place, cell in enumerate(cells)]
        self.sweep()

    def lend(self, where, name, at, many, target, to):
        source = self.cells(where, name)
        self.cells("", target)
        if at + many > len(source):
            raise Refusal("NoPlace", at)
        self.living[target] = self.laid_over(target, to, source[at:at + many])
        self.sweep()

    def twin(self, where, name, new):
        source = self.cells(where, name)
        self.new_name(new)
        self.living[new] = list(source)

    def freeze(self, label):
        if label in self.labels():
            raise Refusal("There", label)
        if len(self.frozen) == 5:
            raise Refusal("TooMany", 5)
        self.frozen.append((label, copy.deepcopy(self.living)))

    def forget(self, label):
        self.files(label)
        self.frozen = [(each, files) for each, files in self.frozen if each != label]
        self.sweep()

    def back(self, label):
        self.living = copy.deepcopy(self.files(label))
        self.sweep()

    def exchange(self, grain, other):
        if self.content_of(grain) != self.content_of(other):
            raise Refusal("Unlike")
        for files in [self.living] + [files for label, files in self.frozen]:
            for name in files:
                files[name] = [other if cell == grain else cell for cell in files[name]]
        self.sweep()

    # Owing.

    def holders(self, grain):
        self.content_of(grain)
        return [(where, name, place) for where, name in self.owners()
                for place, cell in enumerate(self.cells(where, name)) if cell == grain]

    def owners_of(self, grain):
        return [owner for owner in self.owners() if grain in self.cells(*owner)]

    def owed(self, owner, grain, rule):
        holding = self.owners_of(grain)
        if owner not in holding:
            return Fraction(0)
        if rule == "alone":
            return Fraction(int(len(holding) == 1))
        if rule == "eldest":
            return Fraction(int(holding[0] == owner))
        if rule == "even":
            return Fraction(1, len(holding))
        return Fraction(self.cells(*owner).count(grain), self.all_cells().count(grain))

    def owes(self, rule):
        sums = [(owner, sum((self.owed(owner, grain, rule) for grain in self.contents), Fraction(0)))
                for owner in self.owners()]
        return [(where, name, (amount.numerator, amount.denominator)) for (where, name), amount in sums]

    def common(self):
        return sum(len(self.owners_of(grain)) > 1 for grain in self.contents)

    def freed_by(self, some):
        for where, name in some:
            self.cells(where, name)
        return sum(set(self.owners_of(grain)) <= set(some) for grain in self.contents)

    # Merging.

    def likes(self):
        alike = [[other for other in self.kept() if self.contents[other] == self.contents[grain]]
                 for grain in self.kept()]
        return [group for grain, group in zip(self.kept(), alike) if group[0] == grain and len(group) > 1]

    def merge(self, most):
        done = 0
        while done < most:
            alike = [(grain, least) for grain in self.kept() for least in self.kept()
                     if least < grain and self.contents[least] == self.contents[grain]]
            if not alike:
                break
            self.exchange(*min(alike))
            done += 1
        return done

    def part(self, name):
        self.cells("", name)
        trial = self.copied()
        laid = 0
        for place, cell in enumerate(trial.living[name]):
            if cell is not None and trial.all_cells().count(cell) > 1:
                if len(trial.contents) == trial.room:
                    raise Refusal("NoRoom")
                trial.living[name][place] = trial.lay(trial.contents[cell])
                laid += 1
        self.living, self.contents = trial.living, trial.contents
        return laid

    # Parcels.

    def base(self, base):
        return {} if base is None else self.files(base)

    def way(self, base, label, name, place):
        """How a place of a parcel's file is told: None of a hole."""
        grain = self.files(label)[name][place]
        if grain is None:
            return None
        files = self.base(base)
        holding = [(other, there) for other in sorted(files) for there,
                   cell in enumerate(files[other]) if cell == grain]
        if holding:
            return ("lend", *((name, place) if (name, place) in holding else holding[0]))
        own = self.files(label)
        first = [(other, there) for other in sorted(own) for there, cell in enumerate(own[other]) if cell == grain][0]
        return ("write",) if first == (name, place) else ("again", *first)

    def far(self, ways, at):
        """How many places from one on are told in one row."""
        many = 1
        while at + many < len(ways) and ways[at + many] is not None:
            here, there = ways[at], ways[at + many]
            if here[0] == "write":
                if there[0] != "write" or many == 24:
                    break
            elif there != (here[0], here[1], here[2] + many):
                break
            many += 1
        return many

    def parcel(self, base, label):
        gone, names = self.base(base), self.files(label)
        rows = [("gone", name) for name in sorted(set(gone) - set(names))]
        for name in sorted(names):
            rows.append(("file", name, len(names[name])))
            ways = [self.way(base, label, name, place) for place in range(len(names[name]))]
            at = 0
            while at < len(ways):
                if ways[at] is None:
                    at += 1
                    continue
                many = self.far(ways, at)
                if ways[at][0] == "write":
                    rows.append(("write", at, self.read_all(label, name)[at:at + many]))
                else:
                    rows.append((ways[at][0], at, many, ways[at][1], ways[at][2]))
                at += many
        return rows

    def need_right(self, base, rows):
        sizes = {name: len(cells) for name, cells in self.base(base).items()}
        for at, row in enumerate(rows):
            if not right_behind(sizes, rows[:at], row):
                raise Refusal("NoParcel", at)
        told = [row[1] for row in rows if row[0] in ("gone", "file")]
        if set(sizes) - set(told):
            raise Refusal("NoParcel", len(rows))

    def laid(self, base, rows):
        """The cells of the files that rows tell, what is written being told as lists of one content."""
        new = {}
        for word, *things in rows:
            if word == "file":
                current, size = things
                new[current] = [None] * size
            elif word == "write":
                at, contents = things
                new[current][at:at + len(contents)] = [[content] for content in contents]
            elif word != "gone":
                at, many, name, there = things
                source = self.base(base) if word == "lend" else new
                new[current][at:at + many] = source[name][there:there + many]
        return new

    def lay_rows(self, base, rows):
        self.need_right(base, rows)
        new = self.laid(base, rows)
        if any(len(cells) - cells.count(None) > 60 for cells in new.values()):
            raise Refusal("TooFull")
        frozen = {cell for label, files in self.frozen for cells in files.values() for cell in cells} - {None}
        bearing = [row for row in rows if row[0] == "write"]
        if len(frozen) + sum(len(row[2]) for row in bearing) > self.room:
            raise Refusal("NoRoom")
        self.living = {}
        self.sweep()
        grains = {}
        for name in sorted(new):
            self.living[name] = []
            for cell in new[name]:
                if isinstance(cell, list) and id(cell) not in grains:
                    grains[id(cell)] = self.lay(cell[0])
                self.living[name].append(grains[id(cell)] if isinstance(cell, list) else cell)


def row_is_one(row):
    """Whether a row is one of the five kinds, asked in the plainest way."""
    def name(thing):
        return type(thing) is str and re.fullmatch("[a-z]{1,8}", thing) is not None

    def number(thing, least=0, most=TOP):
        return type(thing) is int and least <= thing <= most

    if type(row) is not tuple or not row or type(row[0]) is not str:
        return False
    if row[0] == "gone":
        return len(row) == 2 and name(row[1])
    if row[0] == "file":
        return len(row) == 3 and name(row[1]) and number(row[2])
    if row[0] == "write":
        return (len(row) == 3 and number(row[1]) and type(row[2]) is list and 1 <= len(row[2]) <= 24
                and all(number(content, 0, 10 ** 9) for content in row[2]))
    if row[0] in ("lend", "again"):
        return len(row) == 5 and number(row[1]) and number(row[2], 1) and name(row[3]) and number(row[4])
    return False


def end_of(row):
    return row[1] + (len(row[2]) if row[0] == "write" else row[2])


def right_behind(sizes, ahead, row):
    """Whether a row is right behind right rows, of a base of these sizes: each word of point 45 asked by itself."""
    if not row_is_one(row):
        return False
    gone = [each[1] for each in ahead if each[0] == "gone"]
    files = [each for each in ahead if each[0] == "file"]
    if row[0] == "gone":
        return not files and row[1] in sizes and all(name < row[1] for name in gone)
    if row[0] == "file":
        return len(files) < 6 and all(each[1] < row[1] for each in files) and row[1] not in gone
    if not files:
        return False
    same = ahead[ahead.index(files[-1]) + 1:]
    if any(row[1] < end_of(each) for each in same) or end_of(row) > files[-1][2]:
        return False
    if row[0] == "write":
        return True
    word, place, many, name, there = row
    if word == "lend":
        return name in sizes and there + many <= sizes[name]
    told = {each[1]: each[2] for each in files}
    return name in told and there + many <= told[name] and (name != files[-1][1] or there + many <= place)
