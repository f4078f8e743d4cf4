"""What the tests of pools and files ask again and again."""

import unittest

from lentloft.errors import LoftError, Wrong
from lentloft.files import File
from lentloft.pool import Pool
from tests.samples import TOP


def pool_state(pool):
    """All that a pool tells."""
    return [(grain, pool.content_of(grain), pool.holds(grain)) for grain in pool.kept()], pool.left()


def file_state(file):
    """All that a file tells, but for what is read of holes."""
    held = file.held()
    places = [place for first, behind in held for place in range(first, behind)]
    read = [file.read(place, 1) for place in places]
    return file.size(), held, file.pieces(), [file.grain_at(place) for place in places], read


def kinds_of(things):
    """The kinds of things, to name a subtest: a thing itself may be too long to be shown."""
    return [type(thing).__name__ for thing in things]


class Case(unittest.TestCase):
    def refused(self, kind, fields, function, *things):
        """A call is refused with just this kind, made of just these."""
        with self.subTest(function=function.__name__, kinds=kinds_of(things)):
            with self.assertRaises(LoftError) as caught:
                function(*things)
            self.assertIs(type(caught.exception), kind)
            self.assertEqual(list(vars(caught.exception).values()), list(fields))
            for field in vars(caught.exception).values():
                self.assertIs(type(field), int)

    def wrong(self, at, function, *things):
        self.refused(Wrong, [at], function, *things)

    def pool_with(self, room, *contents):
        """A pool in which contents are laid, each held once beside all files."""
        pool = Pool(room)
        self.assertEqual([pool.lay(content) for content in contents], list(range(len(contents))))
        return pool

    def file_with(self, pool, *grains, at=0):
        """A file that has taken these grains and Nones."""
        file = File(pool)
        if grains:
            file.take(at, list(grains))
        return file

    def has(self, file, *grains, at=0):
        """A file has just these grains and Nones from a place on, holes ahead of it, and nothing behind."""
        self.assertEqual(file.size(), at + len(grains))
        self.assertEqual([file.grain_at(at + k) for k in range(len(grains))], list(grains))
        self.assertEqual(sum(behind - first for first, behind in file.held()), len(grains) - grains.count(None))

    def times(self, pool, *times):
        """The grains from 0 on are held so often each; 0 where one isn't kept; no other one is kept."""
        self.assertEqual(pool.kept(), [grain for grain, many in enumerate(times) if many])
        self.assertEqual([pool.holds(grain) for grain in pool.kept()], [many for many in times if many])


__all__ = ["Case", "TOP", "file_state", "kinds_of", "pool_state"]
