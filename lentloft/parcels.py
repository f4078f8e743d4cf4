"""Parcels: what one frozen state has beside another one, told as rows, and laid again where that other one stands."""

from lentloft.errors import NoParcel, NoRoom, TooFull
from lentloft.kinds import MOST_CONTENTS, MOST_HELD, is_base, is_name, is_of, need
from lentloft.loft import MOST_FILES, Loft
from lentloft.owing import grains_of

MOST_ROWS = 600
ROW_FORMS = {
    "gone": ("name",),
    "file": ("name", "place"),
    "lend": ("place", "some", "name", "place"),
    "write": ("place", "contents"),
    "again": ("place", "some", "name", "place"),
}


def names_of(loft, base):
    """Tell the names of a base's files, sorted."""
    return [] if base is None else loft.names(base)


def single(kind, place, source):
    """Tell a row of one place that is lent out of a source, a name and a place there."""
    name, there = source
    return (kind, place, 1, name, there)


class Sources:
    """Where a parcel's places come from: the places and grains of the base's files, and what was written so far."""

    def __init__(self, loft, base):
        self.files = {name: dict(grains_of(loft, base, name)) for name in names_of(loft, base)}
        self.first = {}
        self.written = {}
        for name in self.files:
            for place in self.files[name]:
                self.first.setdefault(self.files[name][place], (name, place))

    def row_of(self, name, place, grain, content):
        """Tell a place of a parcel's file as a row by itself."""
        if self.files.get(name, {}).get(place) == grain:
            return single("lend", place, (name, place))
        if grain in self.first:
            return single("lend", place, self.first[grain])
        if grain in self.written:
            return single("again", place, self.written[grain])
        self.written[grain] = (name, place)
        return ("write", place, [content])


def goes_on(row, after):
    """Tell whether a row of one place goes on in the same way as the row ahead of it."""
    if row[0] != after[0]:
        return False
    if row[0] == "write":
        return row[1] + len(row[2]) == after[1] and len(row[2]) < MOST_CONTENTS
    kind, place, many, name, there = row
    return (place + many, name, there + many) == (after[1], after[3], after[4])


def longer(row, after):
    """Tell a row and the row of one place behind it, which goes on in the same way, as one row."""
    if row[0] == "write":
        return ("write", row[1], row[2] + after[2])
    kind, place, many, name, there = row
    return (kind, place, many + 1, name, there)


def put_together(singles):
    """Tell rows of one place each as rows that go as far as they can."""
    rows = []
    for row in singles:
        if rows and goes_on(rows[-1], row):
            rows[-1] = longer(rows[-1], row)
        else:
            rows.append(row)
    return rows


def parcel(loft, base, label):
    """Tell what a frozen state has beside a base, as rows."""
    need(isinstance(loft, Loft), is_base(base), is_name(label))
    sources = Sources(loft, base)
    names = loft.names(label)
    rows = [("gone", name) for name in names_of(loft, base) if name not in names]
    for name in names:
        rows.append(("file", name, loft.size(label, name)))
        rows += put_together([
            sources.row_of(name, place, grain, loft.content_of(grain)) for place, grain in grains_of(loft, label, name)
        ])
    return rows


def is_row(thing):
    """Tell whether a thing is a row of one of the five kinds."""
    if not isinstance(thing, tuple) or len(thing) == 0:
        return False
    word = thing[0]
    if not isinstance(word, str) or word not in ROW_FORMS or len(thing) != 1 + len(ROW_FORMS[word]):
        return False
    return all(is_of(kind, part) for kind, part in zip(ROW_FORMS[word], thing[1:]))


class Told:
    """What the rows ahead tell on a base, and whether one more row is right behind them."""

    def __init__(self, base):
        self.base = base
        self.gone = []
        self.new = {}
        self.current = ""
        self.reach = 0

    def takes(self, row):
        """Tell whether a row is right here; the rows behind it come behind it then."""
        if not is_row(row):
            return False
        if row[0] == "gone":
            return self.takes_gone(row[1])
        if row[0] == "file":
            return self.takes_file(row[1], row[2])
        if row[0] == "write":
            return self.takes_places(row[1], len(row[2]))
        kind, place, many, name, there = row
        if there + many > self.source_end(kind, name, place):
            return False
        return self.takes_places(place, many)

    def takes_gone(self, name):
        """Tell whether a file may be told gone."""
        if self.new or name not in self.base or self.gone and name <= self.gone[-1]:
            return False
        self.gone.append(name)
        return True

    def takes_file(self, name, size):
        """Tell whether a file may be told, and begin it."""
        # No name is lesser than "", with which it begins.
        if len(self.new) >= MOST_FILES or name <= self.current or name in self.gone:
            return False
        self.new[name] = size
        self.current = name
        self.reach = 0
        return True

    def takes_places(self, place, many):
        """Tell whether so many places from a place on may come next in the file that is told."""
        if not self.new or place < self.reach or place + many > self.new[self.current]:
            return False
        self.reach = place + many
        return True

    def source_end(self, kind, name, place):
        """Tell up to where may be lent out of a file for a place; 0 where there is no such file."""
        if kind == "lend":
            return self.base.get(name, 0)
        # Of the file itself just what is told already can be lent.
        return place if name == self.current else self.new.get(name, 0)

    def is_all(self):
        """Tell whether each file of the base is told gone or anew."""
        return all(name in self.gone or name in self.new for name in self.base)


def need_right(rows, base):
    """Refuse rows that aren't right on a base, of which the sizes are told by names."""
    told = Told(base)
    for at, row in enumerate(rows):
        if not told.takes(row):
            raise NoParcel(at)
    if not told.is_all():
        raise NoParcel(len(rows))


def places_of(row, base, new):
    """Tell the places that a row lets its file hold, of the places that the base's and the new files hold."""
    if row[0] == "write":
        return list(range(row[1], row[1] + len(row[2])))
    kind, place, many, name, there = row
    source = base[name] if kind == "lend" else new[name]
    return [held - there + place for held in source if there <= held < there + many]


def need_few(loft, base, rows):
    """Refuse rows that tell a file that would hold too many places."""
    held = {name: [place for place, grain in grains_of(loft, base, name)] for name in names_of(loft, base)}
    new = {}
    current = ""
    for row in rows:
        if row[0] == "file":
            current = row[1]
            new[current] = []
        elif row[0] != "gone":
            new[current] = new[current] + places_of(row, held, new)
            # Looked at row by row: rows that lend again can double what there is each time.
            if len(new[current]) > MOST_HELD:
                raise TooFull()


def need_room(loft, rows):
    """Refuse rows that bear more contents than there is room for when the living files are gone."""
    staying = len({
        grain for label in loft.labels() for name in loft.names(label) for place, grain in grains_of(loft, label, name)
    })
    if staying + contents_in(rows) > len(loft.kept()) + loft.left():
        raise NoRoom()


def do_rows(loft, base, rows):
    """Make the files that rows tell, row by row."""
    current = ""
    for row in rows:
        if row[0] == "file":
            current = row[1]
            loft.make(current)
            loft.resize(current, row[2])
        elif row[0] == "write":
            loft.write(current, row[1], row[2])
        elif row[0] != "gone":
            kind, place, many, name, there = row
            loft.lend(base if kind == "lend" else "", name, there, many, current, place)


def lay(loft, base, rows):
    """Put the files that rows tell on a base in the place of the living ones."""
    need(isinstance(loft, Loft), is_base(base), isinstance(rows, list) and len(rows) <= MOST_ROWS)
    need_right(rows, {name: loft.size(base, name) for name in names_of(loft, base)})
    need_few(loft, base, rows)
    need_room(loft, rows)
    for name in loft.names(""):
        loft.drop(name)
    do_rows(loft, base, rows)


def contents_in(rows):
    """Tell how many contents rows bear."""
    return sum([len(row[2]) for row in rows if row[0] == "write"])
