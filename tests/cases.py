"""What the tests of pools and files ask again and again."""

import unittest

from lentloft.errors import LoftError, Wrong
from lentloft.files import File
from lentloft.loft import Loft
from lentloft.pool import Pool
from tests.samples import TOP


def pool_state(pool):
    """All that a pool tells."""
    return [(grain, pool.content_of(grain), pool.holds(grain)) for grain in pool.kept()], pool.left()


def file_state(file):
    """All that a file tells, but for what is read of holes."""
    held = file.held()
    places = [place for first, behind in held for place in range(first, behind)]
    read = [file.read(place, 1) for place in places]
    return file.size(), held, file.pieces(), [file.grain_at(place) for place in places], read


def loft_with(room, **files):
    """A loft with living files of these contents, None being a hole."""
    loft = Loft(room)
    for name, contents in files.items():
        loft.make(name)
        for place, content in enumerate(contents):
            if content is not None:
                loft.write(name, place, [content])
        loft.resize(name, len(contents))
    return loft


def loft_file_state(loft, where, name):
    """All that a loft tells of a file, but for what is read of holes."""
    held = loft.held(where, name)
    read = [loft.read(where, name, place, 1) for first, behind in held for place in range(first, behind)]
    return loft.size(where, name), held, loft.pieces(where, name), read


def loft_state(loft):
    """All that a loft tells, but for what is read of holes."""
    wheres = [*loft.labels(), ""]
    files = [(where, name, loft_file_state(loft, where, name)) for where in wheres for name in loft.names(where)]
    return wheres, [loft.names(where) for where in wheres], files, pool_state(loft)


def kinds_of(things):
    """The kinds of things, to name a subtest: a thing itself may be too long to be shown."""
    return [type(thing).__name__ for thing in things]


class Case(unittest.TestCase):
    def refused(self, kind, fields, function, *things):
        """A call is refused with just this kind, made of just these."""
        with self.subTest(function=function.__name__, kinds=kinds_of(things)):
            with self.assertRaises(LoftError) as caught:
                function(*things)
            self.assertIs(type(caught.exception), kind)
            self.assertEqual(list(vars(caught.exception).values()), list(fields))
            for field, told in zip(vars(caught.exception).values(), fields):
                self.assertIs(type(field), type(told))

    def wrong(self, at, function, *things):
        self.refused(Wrong, [at], function, *things)

    def wrong_in_each_way(self, function, goods, bads):
        """Each argument is refused for each bad thing, whether those behind it are good or not."""
        for at, things in enumerate(bads):
            for turn, thing in enumerate(things):
                told = list(goods)
                told[at] = thing
                self.wrong(at, function, *told)
                for later in range(at + 1, len(goods)):
                    told[later] = bads[later][turn % len(bads[later])]
                    self.wrong(at, function, *told)

    def pool_with(self, room, *contents):
        """A pool in which contents are laid, each held once beside all files."""
        pool = Pool(room)
        self.assertEqual([pool.lay(content) for content in contents], list(range(len(contents))))
        return pool

    def file_with(self, pool, *grains, at=0):
        """A file that has taken these grains and Nones."""
        file = File(pool)
        if grains:
            file.take(at, list(grains))
        return file

    def has(self, file, *grains, at=0):
        """A file has just these grains and Nones from a place on, holes ahead of it, and nothing behind."""
        self.assertEqual(file.size(), at + len(grains))
        self.assertEqual([file.grain_at(at + k) for k in range(len(grains))], list(grains))
        self.assertEqual(sum(behind - first for first, behind in file.held()), len(grains) - grains.count(None))

    def unchanged(self, loft, kind, fields, method, *things):
        """A method of a loft is refused so, and all that the loft tells is as it was."""
        before = loft_state(loft)
        self.refused(kind, fields, getattr(loft, method), *things)
        self.assertEqual(loft_state(loft), before)

    def rule_of_holding(self, loft):
        """Each kept grain is held just as often as there are places that hold it, and no other one is kept."""
        wheres = [*loft.labels(), ""]
        pieces = [piece for where in wheres for name in loft.names(where) for piece in loft.pieces(where, name)]
        grains = [grain + k for place, many, grain in pieces for k in range(many)]
        self.assertEqual(loft.kept(), sorted(set(grains)))
        for grain in loft.kept():
            self.assertEqual(loft.holds(grain), grains.count(grain))

    def times(self, pool, *times):
        """The grains from 0 on are held so often each; 0 where one isn't kept; no other one is kept."""
        self.assertEqual(pool.kept(), [grain for grain, many in enumerate(times) if many])
        self.assertEqual([pool.holds(grain) for grain in pool.kept()], [many for many in times if many])


__all__ = ["Case", "TOP", "file_state", "kinds_of", "loft_file_state", "loft_state", "loft_with",
           "pool_state"]
