"""The loft: living files by names, and frozen states of all of them by labels, of one pool."""

from lentloft.errors import NoFile, NoLabel, There, TooMany, Unlike
from lentloft.files import File
from lentloft.kinds import are_contents, is_few, is_grain, is_name, is_place, is_some, is_where, need
from lentloft.lending import copied, lend
from lentloft.pool import Pool

MOST_FILES = 6
MOST_LABELS = 5


def copies_of(files):
    """Tell copies of files, by the same names."""
    return {name: copied(files[name]) for name in files}


def same_files(files, pool):
    """Tell files of a copied pool that have what these have, by the same names."""
    return {name: files[name].same_in(pool) for name in files}


def let_all_go(files):
    """Let go of all that files hold."""
    for name in files:
        files[name].resize(0)


def need_new(key, there, most):
    """Refuse a name or label that is there already, then one more than there may be."""
    if key in there:
        raise There(key)
    if len(there) >= most:
        raise TooMany(most)


class Loft:
    """Files by names: the living ones, and those of each frozen state by its label, in the order of freezing."""

    def __init__(self, room):
        self.store = Pool(room)
        self.living = {}
        self.frozen = {}

    def names(self, where):
        """Tell the names of the living files or of a frozen state's, sorted."""
        need(is_where(where))
        return sorted(self.state(where))

    def labels(self):
        """Tell the labels in the order in which they were frozen."""
        return list(self.frozen)

    def size(self, where, name):
        """Tell the size of a file."""
        need(is_where(where), is_name(name))
        return self.file(where, name).size()

    def read(self, where, name, at, many):
        """Tell the contents of so many places of a file from a place on, as far as its size goes."""
        need(is_where(where), is_name(name), is_place(at), is_few(many))
        return self.file(where, name).read(at, many)

    def held(self, where, name):
        """Tell the places of a file that are no holes as a normal list."""
        need(is_where(where), is_name(name))
        return self.file(where, name).held()

    def pieces(self, where, name):
        """Tell the places of a file that are no holes, and their grains, as pieces (place, many, grain)."""
        need(is_where(where), is_name(name))
        return self.file(where, name).pieces()

    def make(self, name):
        """Make a living file of size 0."""
        need(is_name(name))
        need_new(name, self.living, MOST_FILES)
        self.living[name] = File(self.store)

    def drop(self, name):
        """Let a living file go."""
        need(is_name(name))
        self.file("", name).resize(0)
        del self.living[name]

    def resize(self, name, size):
        """Let the places of a living file from a size on go, or add holes up to it."""
        need(is_name(name), is_place(size))
        self.file("", name).resize(size)

    def write(self, name, at, contents):
        """Lay contents from a place of a living file on."""
        need(is_name(name), is_place(at), are_contents(contents))
        self.file("", name).write(at, contents)

    def hole(self, name, at, many):
        """Make holes of so many places of a living file from a place on."""
        need(is_name(name), is_place(at), is_place(many))
        self.file("", name).make_holes(at, many)

    def lend(self, where, name, at, many, target, to):
        """Lend so many places of any file, from at on, to a living one, to a place on."""
        need(is_where(where), is_name(name), is_place(at), is_some(many), is_name(target), is_place(to))
        lend(self.file(where, name), at, many, self.file("", target), to)

    def twin(self, where, name, new):
        """Copy any file into a living one of a new name."""
        need(is_where(where), is_name(name), is_name(new))
        source = self.file(where, name)
        need_new(new, self.living, MOST_FILES)
        self.living[new] = copied(source)

    def freeze(self, label):
        """Copy all living files into a frozen state."""
        need(is_name(label))
        need_new(label, self.frozen, MOST_LABELS)
        self.frozen[label] = copies_of(self.living)

    def forget(self, label):
        """Let the files of a frozen state go."""
        need(is_name(label))
        let_all_go(self.state(label))
        del self.frozen[label]

    def back(self, label):
        """Put copies of a frozen state's files in the place of the living ones."""
        need(is_name(label))
        # What both hold isn't let free in between where the copies hold it first.
        coming = copies_of(self.state(label))
        let_all_go(self.living)
        self.living = coming

    def exchange(self, grain, other):
        """Have the other grain wherever a file, living or frozen, has the one."""
        need(is_grain(grain), is_grain(other))
        if self.content_of(grain) != self.content_of(other):
            raise Unlike()
        for file in self.all_files():
            for place in file.held_in(0, file.size()):
                if file.grain_at(place) == grain:
                    file.take(place, [other])

    def kept(self):
        """Tell the kept grains, rising."""
        return self.store.kept()

    def left(self):
        """Tell for how many more grains there is room."""
        return self.store.left()

    def content_of(self, grain):
        """Tell the content of a grain."""
        return self.store.content_of(grain)

    def holds(self, grain):
        """Tell how often a grain is held."""
        return self.store.holds(grain)

    def copied(self):
        """Tell a new loft that has all that this one has, under the same numbers."""
        new = Loft(self.store.room)
        new.store = self.store.copied()
        new.living = same_files(self.living, new.store)
        new.frozen = {label: same_files(self.frozen[label], new.store) for label in self.frozen}
        return new

    def state(self, where):
        """Tell the files, by names, of where they are looked for."""
        if where == "":
            return self.living
        if where not in self.frozen:
            raise NoLabel(where)
        return self.frozen[where]

    def file(self, where, name):
        """Tell the file of a name where it is looked for."""
        files = self.state(where)
        if name not in files:
            raise NoFile(name)
        return files[name]

    def all_files(self):
        """Tell all files, living and frozen."""
        states = [self.living] + list(self.frozen.values())
        return [files[name] for files in states for name in files]
