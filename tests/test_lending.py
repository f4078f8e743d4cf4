"""Points 24 and 25: lending and copying."""

import itertools
import unittest

from lentloft.errors import NoPlace, NoRoom, TooFull, Unlike
from lentloft.files import File
from lentloft.lending import copied, lend
from lentloft.pool import Pool
from tests.cases import TOP, Case, file_state, pool_state


class TestLend(Case):
    def test_to_another_file(self):
        pool = Pool(9)
        source, target = File(pool), File(pool)
        source.write(0, [5, 6, 7, 8])
        self.assertIsNone(lend(source, 1, 2, target, 0))
        self.has(target, 1, 2)
        self.has(source, 0, 1, 2, 3)
        self.times(pool, 1, 2, 2, 1)
        self.assertEqual(target.read(0, 9), [6, 7])
        lend(source, 0, 4, target, 3)
        self.has(target, 1, 2, None, 0, 1, 2, 3)
        self.times(pool, 2, 3, 3, 2)

    def test_over_what_the_target_holds(self):
        pool = self.pool_with(9, 5, 6, 7, 8)
        source, target = self.file_with(pool, 0, None, 1), self.file_with(pool, 2, 2, 3, 3, 2)
        for grain in range(4):
            pool.let_go(grain)
        lend(source, 0, 3, target, 1)
        self.has(target, 2, 0, None, 1, 2)
        self.times(pool, 2, 2, 2, 0)
        self.assertEqual(pool.lay(9), 3)

    def test_no_content_is_laid(self):
        pool = Pool(1)
        source, target = File(pool), File(pool)
        source.write(0, [5])
        for place in range(60):
            lend(source, 0, 1, target, place)
        self.has(target, *[0] * 60)
        self.times(pool, 61)
        self.refused(NoRoom, [], target.write, 0, [6])
        source.resize(0)
        self.times(pool, 60)
        self.assertEqual(target.read(0, 60), [5] * 60)

    def test_holes_are_lent_too(self):
        pool = self.pool_with(9, 5, 6)
        source, target = self.file_with(pool, None, 0, None), self.file_with(pool, 1, 1, 1, 1, 1)
        lend(source, 0, 3, target, 1)
        self.has(target, 1, None, 0, None, 1)
        self.times(pool, 3, 3)
        lend(source, 2, 1, target, 7)
        self.has(target, 1, None, 0, None, 1, None, None, None)

    def test_the_size(self):
        pool = self.pool_with(9, 5)
        for size, many, to, told in (
            (0, 1, 0, 1), (0, 3, 0, 3), (0, 2, 5, 7), (4, 1, 3, 4), (4, 2, 3, 5), (9, 3, 0, 9), (4, 1, 4, 5),
            (0, 3, TOP - 3, TOP), (TOP, 3, TOP - 3, TOP), (TOP, 1, 0, TOP), (0, 1, TOP - 1, TOP),
        ):
            for cells in ((0, 0, 0), (None, None, None)):
                with self.subTest(size=size, many=many, to=to, cells=cells):
                    source, target = self.file_with(pool, *cells), File(pool)
                    target.resize(size)
                    lend(source, 0, many, target, to)
                    self.assertEqual(target.size(), told)
                    self.assertEqual(target.held(), [] if cells[0] is None else [(to, to + many)])

    def test_within_one_file_all_ways(self):
        for cells in ((0, 1, 2, 3, 4, 5), (None, 0, 1, None, 2, 2), (0, 0, None, 0, 1, None)):
            for at, many in itertools.combinations(range(7), 2):
                many -= at
                for to in range(9):
                    pool = self.pool_with(6, 50, 51, 52, 53, 54, 55)
                    file = self.file_with(pool, *cells)
                    for grain in range(6):
                        pool.let_go(grain)
                    expected = list(cells) + [None] * max(0, to + many - 6)
                    expected[to:to + many] = cells[at:at + many]
                    self.assertIsNone(lend(file, at, many, file, to))
                    self.has(file, *expected)
                    self.times(pool, *[expected.count(grain) for grain in range(6)])

    def test_onward_and_backward_with_places_in_common(self):
        pool = Pool(9)
        file = File(pool)
        file.write(0, [5, 6, 7, 8])
        lend(file, 0, 3, file, 1)
        self.has(file, 0, 0, 1, 2)
        self.times(pool, 2, 1, 1, 0)
        lend(file, 1, 3, file, 0)
        self.has(file, 0, 1, 2, 2)
        self.times(pool, 1, 1, 2)
        lend(file, 0, 4, file, 0)
        self.has(file, 0, 1, 2, 2)
        self.times(pool, 1, 1, 2)
        self.assertEqual(file.read(0, 9), [5, 6, 7, 7])

    def test_no_grain_is_let_free_that_stands_in_the_end(self):
        pool = Pool(3)
        file = File(pool)
        file.write(0, [5, 6, 7])
        # The only place of grain 1 goes, and another one comes.
        lend(file, 0, 2, file, 1)
        self.assertEqual(pool_state(pool), ([(0, 5, 2), (1, 6, 1)], 1))
        other = File(pool)
        lend(file, 0, 3, other, 0)
        file.resize(0)
        lend(other, 0, 3, other, 0)
        self.assertEqual(pool_state(pool), ([(0, 5, 2), (1, 6, 1)], 1))
        self.assertEqual(other.read(0, 3), [5, 5, 6])

    def test_far_and_long(self):
        pool = self.pool_with(9, 5, 6, 7)
        source, target = self.file_with(pool, 0, 1), File(pool)
        source.take(10 ** 11, [2])
        source.take(TOP - 1, [0])
        lend(source, 0, TOP, target, 0)
        self.assertEqual(file_state(target), file_state(source))
        self.times(pool, 5, 3, 3)
        lend(source, 2, TOP - 2, target, 1)
        self.assertEqual(target.pieces(), [(0, 1, 0), (10 ** 11 - 1, 1, 2), (TOP - 2, 1, 0), (TOP - 1, 1, 0)])
        self.times(pool, 6, 2, 3)
        lend(source, 1, TOP // 2, source, TOP // 2)
        self.assertEqual(
            source.pieces(), [(0, 2, 0), (10 ** 11, 1, 2), (TOP // 2, 1, 1), (10 ** 11 + TOP // 2 - 1, 1, 2)]
        )
        lend(source, TOP // 2, 1, target, TOP - 1)
        self.assertEqual((target.grain_at(TOP - 1), target.size()), (1, TOP))

    def test_long_stretches_of_holes(self):
        pool = self.pool_with(9, 5)
        source, target = File(pool), self.file_with(pool, 0, 0)
        source.resize(TOP)
        target.take(TOP - 1, [0])
        lend(source, 0, TOP - 2, target, 1)
        self.assertEqual((target.size(), target.held(), pool.holds(0)), (TOP, [(0, 1), (TOP - 1, TOP)], 3))
        lend(source, 0, TOP, target, 0)
        self.assertEqual((target.size(), target.held(), pool.holds(0)), (TOP, [], 1))
        for _ in range(200):
            lend(source, 0, TOP, target, 0)
            lend(target, 0, TOP - 1, source, 1)
        self.assertEqual((source.size(), source.held()), (TOP, []))

    def test_sixty_places_and_one_more(self):
        pool = self.pool_with(9, 5, 6)
        source, target = self.file_with(pool, *[0] * 60), self.file_with(pool, *[1] * 30)
        before = file_state(source), file_state(target), pool_state(pool)
        for at, many, to in ((0, 31, 30), (0, 60, 1), (29, 31, 100), (0, 60, 29), (0, 60, TOP - 60)):
            self.refused(TooFull, [], lend, source, at, many, target, to)
            self.assertEqual((file_state(source), file_state(target), pool_state(pool)), before)
        lend(source, 0, 30, target, 30)
        self.assertEqual(target.held(), [(0, 60)])
        lend(source, 0, 60, target, 0)
        self.assertEqual(target.held(), [(0, 60)])
        self.refused(TooFull, [], lend, source, 0, 1, target, 60)
        self.refused(TooFull, [], lend, source, 0, 1, source, 60)
        self.refused(TooFull, [], lend, source, 0, 60, source, 1)
        source.resize(70)
        lend(source, 60, 10, target, 0)
        lend(source, 0, 10, target, 60)
        self.assertEqual(target.held(), [(10, 70)])
        lend(source, 1, 69, source, 0)
        self.assertEqual(source.held(), [(0, 59)])
        lend(source, 0, 59, source, 1)
        self.assertEqual(source.held(), [(0, 60)])
        self.times(pool, 121, 1)

    def test_no_place_of_the_source(self):
        pool = self.pool_with(9, 5)
        source, target = self.file_with(pool, 0, None, 0, None), self.file_with(pool, 0)
        before = file_state(source), file_state(target), pool_state(pool)
        for at, many in ((4, 1), (3, 2), (0, 5), (0, TOP), (TOP, TOP), (TOP, 1), (1, 4), (5, 1)):
            self.refused(NoPlace, [at], lend, source, at, many, target, 0)
            self.refused(NoPlace, [at], lend, source, at, many, source, 1)
            self.assertEqual((file_state(source), file_state(target), pool_state(pool)), before)
        self.refused(NoPlace, [0], lend, File(pool), 0, 1, target, 0)
        lend(source, 3, 1, target, 0)
        lend(source, 0, 4, target, 0)
        self.has(target, 0, None, 0, None)

    def test_no_place_of_the_target(self):
        pool = self.pool_with(9, 5)
        source, target = self.file_with(pool, 0, None, 0, None), self.file_with(pool, 0)
        before = file_state(source), file_state(target), pool_state(pool)
        for many, to in ((1, TOP), (2, TOP - 1), (4, TOP - 3), (4, TOP)):
            self.refused(NoPlace, [to], lend, source, 0, many, target, to)
            self.refused(NoPlace, [to], lend, source, 0, many, source, to)
            self.assertEqual((file_state(source), file_state(target), pool_state(pool)), before)
        source.resize(TOP)
        self.refused(NoPlace, [1], lend, source, 0, TOP, target, 1)
        self.refused(NoPlace, [TOP], lend, source, 0, TOP, target, TOP)
        lend(source, 0, 4, target, TOP - 4)
        self.assertEqual((target.size(), target.held()), (TOP, [(0, 1), (TOP - 4, TOP - 3), (TOP - 2, TOP - 1)]))

    def test_unlike(self):
        one, other = self.pool_with(9, 5), self.pool_with(9, 5)
        source, target = self.file_with(one, 0, 0), self.file_with(other, 0)
        before = file_state(source), file_state(target), pool_state(one), pool_state(other)
        self.refused(Unlike, [], lend, source, 0, 1, target, 0)
        self.refused(Unlike, [], lend, target, 0, 1, source, 0)
        self.refused(Unlike, [], lend, File(one), 0, 1, File(other), 0)
        self.assertEqual((file_state(source), file_state(target), pool_state(one), pool_state(other)), before)

    def test_the_order_of_refusals(self):
        one, other = self.pool_with(9, 5), self.pool_with(9, 5)
        full = self.file_with(one, *[0] * 60)
        strange = self.file_with(other, *[0] * 60)
        source = self.file_with(one, *[0] * 5)
        self.refused(Unlike, [], lend, source, 9, 9, strange, TOP)
        self.refused(Unlike, [], lend, source, 0, 5, strange, TOP)
        self.refused(Unlike, [], lend, source, 0, 5, strange, 60)
        self.refused(NoPlace, [9], lend, source, 9, 9, full, TOP)
        self.refused(NoPlace, [1], lend, source, 1, 5, full, TOP - 1)
        self.refused(NoPlace, [1], lend, source, 1, 5, full, 60)
        self.refused(NoPlace, [TOP], lend, source, 0, 5, full, TOP)
        self.refused(NoPlace, [TOP - 4], lend, source, 0, 5, full, TOP - 4)
        self.refused(TooFull, [], lend, source, 0, 5, full, TOP - 5)
        self.refused(TooFull, [], lend, source, 0, 1, full, 60)
        lend(source, 0, 5, full, 0)
        self.times(one, 66)


class TestApart(Case):
    def test_a_write_changes_no_other_file(self):
        pool = Pool(20)
        one, other, third = File(pool), File(pool), File(pool)
        one.write(0, [5, 6, 7])
        lend(one, 0, 3, other, 2)
        lend(other, 0, 5, third, 0)
        one.write(1, [9])
        self.has(one, 0, 3, 2)
        self.assertEqual((other.read(0, 9), third.read(0, 9)), ([0, 0, 5, 6, 7], [0, 0, 5, 6, 7]))
        other.make_holes(2, 1)
        third.resize(4)
        self.assertEqual(one.read(0, 9), [5, 9, 7])
        self.assertEqual((other.read(0, 9), third.read(0, 9)), ([0, 0, 0, 6, 7], [0, 0, 5, 6]))
        self.times(pool, 2, 2, 2, 1)

    def test_a_written_place_holds_a_grain_that_no_other_place_holds(self):
        pool = Pool(20)
        one, other = File(pool), File(pool)
        one.write(0, [5, 5])
        lend(one, 0, 2, other, 0)
        other.write(0, [5, 5])
        self.has(other, 2, 3)
        self.times(pool, 1, 1, 1, 1)
        one.write(0, [5, 5])
        self.has(one, 0, 1)
        self.times(pool, 1, 1, 1, 1)


class TestCopied(Case):
    def test_the_same_grains_each_held_once_more(self):
        pool = self.pool_with(9, 5, 6, 7)
        file = self.file_with(pool, 0, None, 2, 0)
        file.resize(9)
        copy = copied(file)
        self.assertIs(type(copy), File)
        self.assertIsNot(copy, file)
        self.assertIs(copy.pool(), pool)
        self.assertEqual(file_state(copy), file_state(file))
        self.times(pool, 5, 1, 3)
        again = copied(copy)
        self.assertEqual(file_state(again), file_state(file))
        self.times(pool, 7, 1, 4)

    def test_of_no_places_of_holes_and_of_many(self):
        pool = self.pool_with(1, 5)
        for size in (0, 1, 60, TOP - 1, TOP):
            file = File(pool)
            file.resize(size)
            self.assertEqual(file_state(copied(file)), (size, [], [], [], []))
        file = self.file_with(pool, *[0] * 60, at=TOP - 60)
        self.assertEqual(file_state(copied(file)), file_state(file))
        self.assertEqual((pool.holds(0), pool.left()), (121, 0))
        half = self.file_with(pool, 0, None, None)
        self.assertEqual(copied(half).size(), 3)

    def test_each_goes_on_by_itself(self):
        pool = Pool(9)
        file = File(pool)
        file.write(0, [5, 6, 7])
        copy = copied(file)
        file.write(1, [8])
        self.assertEqual((file.read(0, 9), copy.read(0, 9)), ([5, 8, 7], [5, 6, 7]))
        copy.resize(1)
        self.assertEqual((file.read(0, 9), copy.read(0, 9)), ([5, 8, 7], [5]))
        self.times(pool, 2, 0, 1, 1)
        file.resize(0)
        self.assertEqual(copy.read(0, 9), [5])
        self.times(pool, 1)
        copy.make_holes(0, 1)
        self.times(pool)


if __name__ == "__main__":
    unittest.main()
