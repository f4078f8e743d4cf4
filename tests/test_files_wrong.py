"""Point 4 for files and lending: which argument is refused, ahead of all else; what is refused changes nothing."""

import copy
import unittest

from lentloft.files import File
from lentloft.lending import copied, differs, lend, shared
from lentloft.pool import Pool
from tests.cases import TOP, Case, file_state, pool_state
from tests.samples import no_many_of, no_objects, no_places, no_takings, no_writings


def lists_in(things):
    """Copies of the lists of plain things among some; others can't be compared with copies."""
    return [copy.copy(thing) for thing in things if isinstance(thing, list)]


class WrongCase(Case):
    def setUp(self):
        self.pool = self.pool_with(3, 5, 6)
        self.file = self.file_with(self.pool, 0, None, 1)
        self.other = self.file_with(self.pool, 1, 1)
        self.before = self.state()

    def state(self):
        return file_state(self.file), file_state(self.other), pool_state(self.pool)

    def wrong(self, at, function, *things):
        lists = lists_in(things)
        super().wrong(at, function, *things)
        self.assertEqual(self.state(), self.before)
        self.assertEqual([thing for thing in things if isinstance(thing, list)], lists)


class TestFiles(WrongCase):
    def test_a_file_of_what_is_no_pool(self):
        for thing in no_objects() + [self.file, Pool, File]:
            self.wrong(0, File, thing)

    def test_resize_and_grain_at(self):
        for thing in no_places():
            self.wrong(0, self.file.resize, thing)
            self.wrong(0, self.file.grain_at, thing)
        self.file.resize(2)
        self.has(self.file, 0, None)

    def test_make_holes(self):
        for thing in no_places():
            for good in (0, 2, TOP):
                self.wrong(0, self.file.make_holes, thing, good)
                self.wrong(1, self.file.make_holes, good, thing)
            self.wrong(0, self.file.make_holes, thing, thing)
            self.wrong(0, self.file.make_holes, thing, -1)
            self.wrong(0, self.file.make_holes, True, thing)
        self.file.make_holes(0, 1)
        self.has(self.file, None, None, 1)

    def test_read(self):
        for thing in no_places():
            for many in (0, 1, 60, 61, -1, None, thing):
                self.wrong(0, self.file.read, thing, many)
        for thing in no_many_of(60):
            for at in (0, 2, 3, TOP):
                self.wrong(1, self.file.read, at, thing)
        self.assertEqual(self.file.read(0, 60), [5, 0, 6])

    def test_write(self):
        for thing in no_places():
            for contents in ([1], [1] * 24, [1] * 25, [], None, [-1], [True]):
                self.wrong(0, self.file.write, thing, contents)
        for thing in no_writings():
            for at in (0, 3):
                self.wrong(1, self.file.write, at, thing)
            self.wrong(0, self.file.write, -1, thing)
        self.file.write(1, [7])
        self.has(self.file, 0, 2, 1)

    def test_take(self):
        for thing in no_places():
            for grains in ([0], [None], [0] * 60, [0] * 61, [], None, [-1], [True], [9]):
                self.wrong(0, self.file.take, thing, grains)
        for thing in no_takings():
            for at in (0, 3):
                self.wrong(1, self.file.take, at, thing)
            self.wrong(0, self.file.take, -1, thing)
        self.file.take(1, [1, None])
        self.has(self.file, 0, 1, None)

    def test_wrong_goes_ahead_of_all_else(self):
        for at in (0, TOP):
            self.wrong(1, self.file.write, at, [1, 2, -1])
            self.wrong(1, self.file.write, at, [0] * 25)
            self.wrong(1, self.file.take, at, [9, 0, -1])
            self.wrong(1, self.file.take, at, [9] * 61)
            self.wrong(1, self.file.take, at, [9, True])
        self.wrong(0, self.file.take, TOP + 1, [9])
        self.wrong(0, self.file.write, TOP + 1, [9])
        full = self.file_with(self.pool, *[0] * 60)
        self.before = self.state()
        self.wrong(1, full.write, 60, [1, 2, "3"])
        self.wrong(1, full.take, 60, [0, 0, "0"])
        self.assertEqual(full.held(), [(0, 60)])


class TestLending(WrongCase):
    def no_files(self):
        return no_objects() + [self.pool, File, [self.file], (self.file,)]

    def test_lend(self):
        good = [self.file, 0, 1, self.other, 0]
        bad = [self.no_files(), no_places(), no_places() + [0], self.no_files(), no_places()]
        for at, things in enumerate(bad):
            for thing in things:
                told = list(good)
                told[at] = thing
                self.wrong(at, lend, *told)
                # What is wrong behind it isn't looked at.
                for behind in range(at + 1, 5):
                    also = list(told)
                    also[behind] = None
                    self.wrong(at, lend, *also)
                self.wrong(at, lend, *told[:at + 1], *[-1] * (4 - at))
        lend(*good)
        self.has(self.other, 0, 1)

    def test_lend_of_one_file(self):
        for thing in no_places():
            self.wrong(1, lend, self.file, thing, 1, self.file, 0)
            self.wrong(2, lend, self.file, 0, thing, self.file, 0)
            self.wrong(4, lend, self.file, 0, 1, self.file, thing)
        self.wrong(2, lend, self.file, 0, 0, self.file, 0)

    def test_wrong_goes_ahead_of_all_else(self):
        strange = File(Pool(1))
        self.wrong(4, lend, self.file, 0, 1, strange, TOP + 1)
        self.wrong(2, lend, self.file, 0, 0, strange, 0)
        self.wrong(2, lend, self.file, TOP, TOP + 1, strange, 0)
        self.wrong(4, lend, self.file, 9, 9, self.other, -1)
        self.wrong(1, lend, self.file, TOP + 1, TOP, self.other, TOP)
        self.wrong(4, lend, self.file, 0, TOP, self.other, True)
        self.wrong(2, lend, self.file, 3, True, self.other, 0)

    def test_copied(self):
        for thing in self.no_files():
            self.wrong(0, copied, thing)

    def test_shared_and_differs(self):
        for function in (shared, differs):
            for thing in self.no_files():
                self.wrong(0, function, thing, self.file)
                self.wrong(1, function, self.file, thing)
                self.wrong(0, function, thing, thing)
                self.wrong(0, function, None, thing)


if __name__ == "__main__":
    unittest.main()
