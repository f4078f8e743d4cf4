"""Points 21 and 22: what is told of a file."""

import itertools
import unittest

from lentloft.files import File
from lentloft.pool import Pool
from lentloft.spans import is_normal
from tests.cases import TOP, Case
from tests.samples import normal_of


class TestRead(Case):
    def test_each_stretch_of_a_small_file(self):
        pool = self.pool_with(9, 50, 0, 10 ** 9)
        file = self.file_with(pool, 0, None, 2, 1, None, 0)
        contents = [50, 0, 10 ** 9, 0, 0, 50]
        for at in range(9):
            for many in range(9):
                told = file.read(at, many)
                self.assertEqual(told, contents[at:at + many], (at, many))
                self.assertTrue(all(type(content) is int for content in told))

    def test_none_to_sixty(self):
        pool = self.pool_with(1, 7)
        file = self.file_with(pool, *[0] * 60)
        file.resize(100)
        for many in range(61):
            self.assertEqual(file.read(0, many), [7] * many)
            self.assertEqual(file.read(30, many), ([7] * 30 + [0] * 30)[:many])
            self.assertEqual(file.read(60, many), [0] * min(many, 40))
            self.assertEqual(file.read(99, many), [0] * min(many, 1))
            self.assertEqual(file.read(100, many), [])
            self.assertEqual(file.read(101, many), [])

    def test_far_on(self):
        file = File(Pool(3))
        for at in (0, 5, TOP - 60, TOP - 1, TOP):
            self.assertEqual(file.read(at, 60), [])
        file.resize(TOP)
        self.assertEqual(file.read(TOP - 60, 60), [0] * 60)
        self.assertEqual(file.read(TOP - 59, 60), [0] * 59)
        file.write(TOP - 1, [8])
        self.assertEqual(file.read(TOP - 1, 60), [8])
        self.assertEqual(file.read(TOP - 3, 60), [0, 0, 8])
        self.assertEqual(file.read(TOP, 60), [])
        self.assertEqual(file.read(TOP, 0), [])
        self.assertEqual(file.read(10 ** 11, 3), [0, 0, 0])

    def test_a_content_of_0_reads_as_a_hole_does(self):
        file = File(Pool(3))
        file.write(1, [0])
        self.assertEqual((file.read(0, 9), file.held()), ([0, 0], [(1, 2)]))


class TestGrainAt(Case):
    def test_held_places_holes_and_what_is_not_there(self):
        pool = self.pool_with(3, 5, 6)
        file = self.file_with(pool, 1, None, 0)
        file.resize(5)
        self.assertEqual([file.grain_at(place) for place in range(7)], [1, None, 0, None, None, None, None])
        self.assertIsNone(file.grain_at(TOP))
        self.assertIsNone(file.grain_at(TOP - 1))
        file.take(TOP - 1, [0])
        self.assertEqual(file.grain_at(TOP - 1), 0)
        self.assertIsNone(file.grain_at(TOP))
        file.resize(1)
        self.assertEqual([file.grain_at(place) for place in (0, 1, 2, TOP - 1)], [1, None, None, None])

    def test_grain_0_is_a_grain(self):
        file = self.file_with(self.pool_with(1, 0), 0)
        self.assertEqual(file.grain_at(0), 0)
        self.assertIs(type(file.grain_at(0)), int)


class TestHeld(Case):
    def test_all_small_files(self):
        pool = self.pool_with(1, 5)
        for cells in itertools.product((None, 0), repeat=7):
            file = self.file_with(pool, *cells)
            held = normal_of({place for place, grain in enumerate(cells) if grain is not None})
            self.assertEqual(file.held(), held)
            self.assertTrue(is_normal(file.held()))
            file.resize(TOP)
            self.assertEqual(file.held(), held)
            file.resize(0)

    def test_sixty_stretches_and_one(self):
        pool = self.pool_with(1, 5)
        file = File(pool)
        for place in range(60):
            file.take(2 * (59 - place) + 1, [0])
        self.assertEqual(file.held(), [(2 * k + 1, 2 * k + 2) for k in range(60)])
        file.resize(0)
        for place in itertools.chain(range(0, 60, 2), range(59, 0, -2)):
            file.take(TOP - 60 + place, [0])
        self.assertEqual(file.held(), [(TOP - 60, TOP)])
        self.assertEqual(File(pool).held(), [])


class TestPieces(Case):
    def pieces(self, grains, *pieces, at=0):
        pool = self.pool_with(120, *range(100, 130))
        file = self.file_with(pool, *grains, at=at)
        self.assertEqual(file.pieces(), [(at + place, many, grain) for place, many, grain in pieces])

    def test_none(self):
        self.pieces([])
        self.pieces([None])
        self.pieces([None] * 60)

    def test_grains_that_rise_by_one(self):
        self.pieces([0], (0, 1, 0))
        self.pieces([0, 1, 2, 3], (0, 4, 0))
        self.pieces([7, 8, 9], (0, 3, 7))
        self.pieces(range(30), (0, 30, 0))
        self.pieces([*range(30), *range(30)], (0, 30, 0), (30, 30, 0))

    def test_grains_that_fall_or_are_alike(self):
        self.pieces([3, 2, 1], (0, 1, 3), (1, 1, 2), (2, 1, 1))
        self.pieces([4, 4, 4], (0, 1, 4), (1, 1, 4), (2, 1, 4))
        self.pieces([0] * 60, *[(place, 1, 0) for place in range(60)])
        self.pieces([4, 5, 5, 6, 5, 6, 7], (0, 2, 4), (2, 2, 5), (4, 3, 5))

    def test_grains_that_rise_by_more(self):
        self.pieces([0, 2, 4, 5], (0, 1, 0), (1, 1, 2), (2, 2, 4))

    def test_holes_amid(self):
        self.pieces([None, 0, 1, None, 2, 3], (1, 2, 0), (4, 2, 2))
        self.pieces([0, None, 2], (0, 1, 0), (2, 1, 2))
        self.pieces([0, None, 1], (0, 1, 0), (2, 1, 1))
        self.pieces([0, None, None, 3, None], (0, 1, 0), (3, 1, 3))

    def test_far_on(self):
        self.pieces([5, 6, None, 7, 9, 10], (0, 2, 5), (3, 1, 7), (4, 2, 9), at=TOP - 6)
        self.pieces(range(20), (0, 20, 0), at=TOP - 20)

    def test_the_order_of_the_deeds_does_not_matter(self):
        pool = self.pool_with(120, *range(10))
        for order in itertools.permutations((0, 1, 2, 4)):
            file = File(pool)
            for place in order:
                file.take(place, [place + 3])
            self.assertEqual(file.pieces(), [(0, 3, 3), (4, 1, 7)])
            self.assertEqual(file.held(), [(0, 3), (4, 5)])
            file.resize(0)

    def test_all_small_files_have_as_few_as_can_be(self):
        pool = self.pool_with(3, 5, 6, 7)
        for cells in itertools.product((None, 0, 1, 2), repeat=5):
            file = self.file_with(pool, *cells)
            pieces = file.pieces()
            told = [(place + k, grain + k) for place, many, grain in pieces for k in range(many)]
            self.assertEqual(told, [(place, grain) for place, grain in enumerate(cells) if grain is not None])
            ends = [k for k in range(5) if cells[k] is not None
                    and (k == 4 or cells[k + 1] is None or cells[k + 1] != cells[k] + 1)]
            self.assertEqual(len(pieces), len(ends), cells)
            file.resize(0)


if __name__ == "__main__":
    unittest.main()
