"""Points 26 and 27: what files share, and where they differ."""

import itertools
import random
import unittest

from lentloft.errors import Unlike
from lentloft.files import File
from lentloft.lending import copied, differs, lend, shared
from lentloft.pool import Pool
from lentloft.spans import is_normal
from tests.cases import TOP, Case, file_state, pool_state
from tests.samples import normal_of


class TestShared(Case):
    def shared(self, one, other, *expected, at=0, to=0):
        """Of files with these grains it is told so; their pool and they themselves stay as they were."""
        pool = self.pool_with(9, 5, 6, 7, 8, 9)
        file, there = self.file_with(pool, *one, at=at), self.file_with(pool, *other, at=to)
        before = file_state(file), file_state(there), pool_state(pool)
        self.assertEqual(shared(file, there), [(at + place, many, to + least) for place, many, least in expected])
        self.assertEqual((file_state(file), file_state(there), pool_state(pool)), before)

    def test_none(self):
        self.shared([], [])
        self.shared([0, 1], [])
        self.shared([], [0, 1])
        self.shared([None, None], [None, None])
        self.shared([0, 1], [2, 3, None])

    def test_grains_alone_are_shared_not_contents(self):
        pool = Pool(9)
        one, other = File(pool), File(pool)
        one.write(0, [5, 6])
        other.write(0, [5, 6])
        self.assertEqual((shared(one, other), shared(other, one)), ([], []))

    def test_together(self):
        self.shared([0, 1, 2], [0, 1, 2], (0, 3, 0))
        self.shared([0, 1, 2], [3, None, 0, 1, 2], (0, 3, 2))
        self.shared([3, 0, 1, 2], [0, 1, 2], (1, 3, 0))
        self.shared([2, 0, 1], [0, 1, 2], (0, 1, 2), (1, 2, 0))
        self.shared([4, 2, 0], [4, 2, 0], (0, 3, 0))
        self.shared([0, 1, 2], [2, 1, 0], (0, 1, 2), (1, 1, 1), (2, 1, 0))

    def test_holes_and_strangers_part(self):
        self.shared([0, None, 2], [0, 1, 2], (0, 1, 0), (2, 1, 2))
        self.shared([0, 3, 2], [0, 1, 2], (0, 1, 0), (2, 1, 2))
        self.shared([0, 1], [0, None, 1], (0, 1, 0), (1, 1, 2))

    def test_the_least_place_of_the_other_one(self):
        self.shared([0], [None, 0, 0, 0], (0, 1, 1))
        self.shared([0, 0, 0], [None, 0, 0, 0], (0, 1, 1), (1, 1, 1), (2, 1, 1))
        # The least place counts, though a later one would go on.
        self.shared([0, 1], [1, 0, 1], (0, 1, 1), (1, 1, 0))
        self.shared([1, 0, 1], [0, 1], (0, 1, 1), (1, 2, 0))
        self.shared([0, 1, 0, 1], [0, 1, 0, 1], (0, 2, 0), (2, 2, 0))

    def test_the_least_place_whatever_came_first(self):
        pool = self.pool_with(9, 5, 6)
        one, other = self.file_with(pool, 0), File(pool)
        for place, least in ((9, 9), (TOP - 1, 9), (3, 3), (5, 3), (0, 0)):
            other.take(place, [0])
            self.assertEqual(shared(one, other), [(0, 1, least)])
        other.make_holes(0, 5)
        self.assertEqual(shared(one, other), [(0, 1, 5)])

    def test_far_on(self):
        self.shared([0, 1, None, 0], [2, 0, 1], (0, 2, 1), (3, 1, 1), at=TOP - 4, to=10 ** 11)
        self.shared([0, 1, 2], [0, 1, 2], (0, 3, 0), at=0, to=TOP - 3)

    def test_with_itself_and_with_a_copy(self):
        pool = self.pool_with(9, 5, 6)
        file = self.file_with(pool, 0, 1, 0, None, 1)
        told = [(0, 2, 0), (2, 1, 0), (4, 1, 1)]
        self.assertEqual((shared(file, file), shared(file, copied(file)), shared(copied(file), file)), (told,) * 3)

    def test_sixty_places(self):
        pool = Pool(120)
        one, other = File(pool), File(pool)
        for at in (0, 24, 48):
            one.write(at, [at] * min(24, 60 - at))
        lend(one, 0, 60, other, 5)
        self.assertEqual((shared(one, other), shared(other, one)), ([(0, 60, 5)], [(5, 60, 0)]))
        one.write(30, [8])
        self.assertEqual(shared(one, other), [(0, 30, 5), (31, 29, 36)])
        self.assertEqual(shared(other, one), [(5, 30, 0), (36, 29, 31)])

    def test_all_small_pairs(self):
        pool = self.pool_with(2, 5, 6)
        cells = list(itertools.product((None, 0, 1), repeat=4))
        files = [self.file_with(pool, *grains) for grains in cells]
        for one, file in zip(cells, files):
            for other, there in zip(cells, files):
                pairs = [(at, other.index(grain)) for at,
                         grain in enumerate(one) if grain is not None and grain in other]
                told = shared(file, there)
                self.assertEqual([(at + k, to + k) for at, many, to in told for k in range(many)], pairs)
                least = sum((at - 1, to - 1) not in pairs for at, to in pairs)
                self.assertEqual(len(told), least, (one, other))

    def test_unlike(self):
        one, other = self.pool_with(9, 5), self.pool_with(9, 5)
        file, there = self.file_with(one, 0), self.file_with(other, 0)
        self.refused(Unlike, [], shared, file, there)
        self.refused(Unlike, [], shared, there, file)
        self.refused(Unlike, [], shared, File(one), File(other))


class TestDiffers(Case):
    def differs(self, one, other, expected):
        """Both ways the same is told, and nothing is changed."""
        before = file_state(one), file_state(other), pool_state(one.pool()), pool_state(other.pool())
        for told in (differs(one, other), differs(other, one)):
            self.assertEqual(told, expected)
            self.assertTrue(is_normal(told))
        self.assertEqual((file_state(one), file_state(other), pool_state(one.pool()), pool_state(other.pool())), before)

    def both_ways(self, one, other, expected, at=0, one_pool=True):
        """Files with these contents, None for a hole, each in grains of its own."""
        pool = Pool(120)
        files = [File(pool), File(pool if one_pool else Pool(120))]
        for file, contents in zip(files, (one, other)):
            file.resize(at + len(contents))
            for place, content in enumerate(contents, start=at):
                if content is not None:
                    file.write(place, [content])
        self.differs(*files, expected)

    def test_of_one_pool_and_of_two(self):
        for one_pool in (True, False):
            for at in (0, 5, TOP - 9):
                for one, other, places in (
                    ([], [], []),
                    ([5], [5], []),
                    ([5], [6], [0]),
                    ([5, 6, 7], [5, 6, 7], []),
                    ([5, 6, 7, 8], [5, 9, 9, 8], [1, 2]),
                    ([5, 6, 7, 8], [9, 6, 9, 8], [0, 2]),
                    ([None, 6], [5, 6], [0]),
                    ([None, 6], [0, 6], []),
                    ([None, 0, None], [0, None, None], []),
                    ([5, 6], [5, 6, 7], [2]),
                    ([5, 6], [5, 6, None, None], [2, 3]),
                    ([5, 6], [5, 6, 0, 0], [2, 3]),
                    ([5, 6], [5, 9, 0, 0], [1, 2, 3]),
                    ([], [None, None], [0, 1]),
                    ([1, None, None, 4], [None, None, 3], [0, 2, 3]),
                ):
                    with self.subTest(one=one, other=other, at=at, one_pool=one_pool):
                        self.both_ways(one, other, normal_of({at + place for place in places}), at, one_pool)

    def test_all_small_pairs(self):
        pools = Pool(120), Pool(120)
        cells = [cells for many in range(4) for cells in itertools.product((None, 0, 7), repeat=many)]
        grains = [{None: None, 0: pool.lay(0), 7: pool.lay(7)} for pool in pools]
        files = [[self.file_with(pool, *[by[cell] for cell in each]) for each in cells]
                 for pool, by in zip(pools, grains)]
        for one, file in zip(cells, files[0]):
            for other, there, strange in zip(cells, *files):
                unlike = {at for at in range(max(len(one), len(other)))
                          if at >= min(len(one), len(other)) or (one[at] or 0) != (other[at] or 0)}
                for second in (there, strange):
                    self.assertEqual(differs(file, second), normal_of(unlike), (one, other))

    def test_the_same_grain_at_the_same_place_is_no_difference(self):
        pool = Pool(9)
        one = File(pool)
        one.write(0, [5, 6, 7])
        other = copied(one)
        self.differs(one, other, [])
        self.differs(one, one, [])
        other.write(1, [6])
        self.differs(one, other, [])
        other.write(1, [8])
        self.differs(one, other, [(1, 2)])
        lend(one, 0, 2, other, 1)
        self.differs(one, other, [(1, 3)])

    def test_the_same_numbers_of_two_pools_are_not_the_same_grains(self):
        one, other = File(Pool(9)), File(Pool(9))
        one.write(0, [5, 6, 7])
        other.write(0, [5, 8, 7])
        self.assertEqual(one.pieces(), other.pieces())
        self.differs(one, other, [(1, 2)])

    def test_great_files(self):
        for one_pool in (True, False):
            pool = Pool(9)
            one, other = File(pool), File(pool if one_pool else Pool(9))
            one.resize(TOP)
            self.differs(one, other, [(0, TOP)])
            other.resize(TOP - 1)
            self.differs(one, other, [(TOP - 1, TOP)])
            other.resize(TOP)
            self.differs(one, other, [])
            one.write(TOP - 1, [5])
            self.differs(one, other, [(TOP - 1, TOP)])
            other.write(TOP - 1, [5])
            self.differs(one, other, [])
            other.write(10 ** 11, [0, 6])
            self.differs(one, other, [(10 ** 11 + 1, 10 ** 11 + 2)])
            one.resize(10 ** 11 + 1)
            self.differs(one, other, [(10 ** 11 + 1, TOP)])
            one.write(0, [1])
            self.differs(one, other, [(0, 1), (10 ** 11 + 1, TOP)])
            one.resize(0)
            self.differs(one, other, [(0, TOP)])

    def test_places_of_just_one_join_those_that_read_unlike(self):
        pool = Pool(9)
        one, other = File(pool), File(pool)
        one.write(0, [5, 6])
        other.write(0, [5, 7])
        other.resize(TOP)
        self.differs(one, other, [(1, TOP)])

    def test_what_is_beyond_the_lesser_size_counts_once(self):
        pool = Pool(9)
        one, other = File(pool), File(pool)
        one.resize(3)
        other.write(2, [5, 6, 7, 0, 8])
        self.differs(one, other, [(2, 7)])

    def test_by_chance(self):
        chance = random.Random(27)
        for each in range(60):
            pool = self.pool_with(4, 0, 1, 1, 2)
            strange = self.pool_with(4, 2, 1, 0, 0)
            cells = [[chance.choice((None, 0, 1, 2, 3)) for _ in range(chance.randint(1, 60))] for _ in range(2)]
            by = (0, 1, 1, 2), ((0, 1, 1, 2) if each % 2 else (2, 1, 0, 0))
            files = self.file_with(pool, *cells[0]), self.file_with(pool if each % 2 else strange, *cells[1])
            reads = [[0 if cell is None else contents[cell] for cell in row] for row, contents in zip(cells, by)]
            least, most = sorted([len(cells[0]), len(cells[1])])
            unlike = {at for at in range(most) if at >= least or reads[0][at] != reads[1][at]}
            self.differs(*files, normal_of(unlike))


if __name__ == "__main__":
    unittest.main()
