"""Points 17 to 20 and 23: what is done to files, and what comes of the grains."""

import unittest

from lentloft.errors import NoGrain, NoPlace, NoRoom, TooFull
from lentloft.files import File
from lentloft.pool import Pool
from tests.cases import TOP, Case, file_state, pool_state


class TestNew(Case):
    def test_a_new_file(self):
        pool = self.pool_with(3, 5)
        file = File(pool)
        self.assertEqual(file_state(file), (0, [], [], [], []))
        self.assertIs(file.pool(), pool)
        self.assertEqual(pool_state(pool), ([(0, 5, 1)], 2))

    def test_each_file_has_the_pool_that_was_handed_in(self):
        one, other = Pool(5), Pool(5)
        files = [File(one), File(other), File(one)]
        files[0].write(0, [1])
        files[1].write(0, [2, 3])
        for file, pool in zip(files, (one, other, one)):
            self.assertIs(file.pool(), pool)
            self.assertIs(file.pool(), pool)
        self.assertEqual((one.kept(), other.kept()), ([0], [0, 1]))


class TestResize(Case):
    def test_to_more_and_to_less_without_grains(self):
        file = File(Pool(1))
        for size in (5, 0, 10 ** 12, 1, 10 ** 12 - 1, 7, 7, 0, 0):
            self.assertIsNone(file.resize(size))
            self.assertEqual(file_state(file), (size, [], [], [], []))

    def test_to_more_is_holes(self):
        pool = self.pool_with(4, 5, 6)
        file = self.file_with(pool, 0, 1)
        file.resize(4)
        self.has(file, 0, 1, None, None)
        file.resize(TOP)
        self.assertEqual((file.size(), file.held(), file.read(0, 6)), (TOP, [(0, 2)], [5, 6, 0, 0, 0, 0]))
        self.times(pool, 2, 2)

    def test_to_less_lets_go(self):
        pool = self.pool_with(4, 5, 6, 7)
        file = self.file_with(pool, 0, 1, None, 2, 1, 0)
        for grain in range(3):
            pool.let_go(grain)
        self.times(pool, 2, 2, 1)
        for size, grains, times in (
            (6, (0, 1, None, 2, 1, 0), (2, 2, 1)),
            (5, (0, 1, None, 2, 1), (1, 2, 1)),
            (4, (0, 1, None, 2), (1, 1, 1)),
            (3, (0, 1, None), (1, 1, 0)),
            (2, (0, 1), (1, 1, 0)),
            (1, (0,), (1, 0, 0)),
            (0, (), (0, 0, 0)),
        ):
            file.resize(size)
            self.has(file, *grains)
            self.times(pool, *times)

    def test_what_went_does_not_come_again(self):
        pool = self.pool_with(4, 5, 6)
        file = self.file_with(pool, 0, 1, 0, 1)
        file.resize(1)
        file.resize(TOP)
        self.assertEqual((file.size(), file.held()), (TOP, [(0, 1)]))
        self.times(pool, 2, 1)
        file.resize(0)
        self.times(pool, 1, 1)

    def test_far_on(self):
        pool = self.pool_with(4, 5)
        file = self.file_with(pool, 0, 0, at=TOP - 2)
        file.resize(TOP - 1)
        self.assertEqual((file.size(), file.held(), pool.holds(0)), (TOP - 1, [(TOP - 2, TOP - 1)], 2))
        file.resize(TOP - 2)
        self.assertEqual((file.size(), file.held(), pool.holds(0)), (TOP - 2, [], 1))


class TestMakeHoles(Case):
    def test_within(self):
        pool = self.pool_with(4, 5, 6, 7)
        file = self.file_with(pool, 0, 1, 2, None, 1, 0)
        self.assertIsNone(file.make_holes(1, 2))
        self.has(file, 0, None, None, None, 1, 0)
        self.times(pool, 3, 2, 1)
        file.make_holes(0, 1)
        self.has(file, None, None, None, None, 1, 0)
        self.times(pool, 2, 2, 1)

    def test_the_last_place_that_holds_a_grain_lets_it_free(self):
        pool = Pool(3)
        file = File(pool)
        file.write(0, [5, 6, 7])
        file.make_holes(1, 1)
        self.has(file, 0, None, 2)
        self.times(pool, 1, 0, 1)
        self.assertEqual(pool.lay(8), 1)

    def test_over_the_end_and_beyond_it(self):
        pool = self.pool_with(4, 5, 6)
        for at, many, left in (
            (2, 1, (0, 1, None)), (2, 5, (0, 1, None)), (2, TOP, (0, 1, None)), (1, TOP, (0, None, None)),
            (0, TOP, (None, None, None)), (0, 3, (None, None, None)), (0, 4, (None, None, None)),
            (3, 1, (0, 1, 0)), (3, TOP, (0, 1, 0)), (4, 9, (0, 1, 0)), (TOP, 1, (0, 1, 0)), (TOP, TOP, (0, 1, 0)),
            (0, 0, (0, 1, 0)), (1, 0, (0, 1, 0)), (3, 0, (0, 1, 0)), (TOP, 0, (0, 1, 0)),
        ):
            with self.subTest(at=at, many=many):
                file = self.file_with(pool, 0, 1, 0)
                file.make_holes(at, many)
                self.has(file, *left)
                self.times(pool, 1 + left.count(0), 1 + left.count(1))
                file.resize(0)
                self.times(pool, 1, 1)

    def test_amid_a_great_file(self):
        pool = self.pool_with(4, 5)
        file = self.file_with(pool, 0, 0, 0, at=10 ** 6)
        file.take(TOP - 1, [0])
        file.make_holes(10 ** 6 + 1, TOP - 2 - 10 ** 6)
        self.assertEqual((file.size(), file.held()), (TOP, [(10 ** 6, 10 ** 6 + 1), (TOP - 1, TOP)]))
        file.make_holes(0, TOP)
        self.assertEqual((file.size(), file.held()), (TOP, []))
        self.times(pool, 1)

    def test_of_a_file_without_places(self):
        file = File(Pool(1))
        file.make_holes(0, TOP)
        file.make_holes(5, 3)
        self.assertEqual(file_state(file), (0, [], [], [], []))


class TestWrite(Case):
    def test_one_and_twenty_four(self):
        for many in (1, 2, 23, 24):
            pool = Pool(24)
            file = File(pool)
            contents = [10 ** 9 - k for k in range(many)]
            self.assertIsNone(file.write(0, contents))
            self.has(file, *range(many))
            self.assertEqual(file.read(0, 60), contents)
            self.assertEqual(pool_state(pool), ([(k, 10 ** 9 - k, 1) for k in range(many)], 24 - many))

    def test_contents_alike_have_grains_of_their_own(self):
        pool = Pool(120)
        file = File(pool)
        file.write(0, [5, 5, 0, 0])
        file.write(6, [5, 0])
        self.has(file, 0, 1, 2, 3, None, None, 4, 5)
        self.times(pool, 1, 1, 1, 1, 1, 1)

    def test_laid_one_after_another_by_the_least_numbers(self):
        pool = self.pool_with(9, 50, 51, 52, 53)
        pool.let_go(0)
        pool.let_go(2)
        file = File(pool)
        file.write(3, [7, 8, 9])
        self.has(file, 0, 2, 4, at=3)
        self.assertEqual([pool.content_of(grain) for grain in (0, 2, 4)], [7, 8, 9])

    def test_over_what_is_held_lets_go_first(self):
        pool = Pool(9)
        file = File(pool)
        file.write(0, [1, 2, 3, 4])
        file.write(1, [8, 9])
        # 1 and 2 are free again ahead of the laying, so they are laid again.
        self.has(file, 0, 1, 2, 3)
        self.assertEqual(file.read(0, 9), [1, 8, 9, 4])
        self.times(pool, 1, 1, 1, 1)
        file.make_holes(2, 1)
        file.write(1, [5, 6, 7, 8])
        self.has(file, 0, 1, 2, 3, 4)
        self.assertEqual(file.read(0, 9), [1, 5, 6, 7, 8])

    def test_let_go_in_one_order_laid_in_another(self):
        pool = self.pool_with(4, 5, 6, 7)
        file = self.file_with(pool, 2, 0, 1)
        for grain in range(3):
            pool.let_go(grain)
        file.write(0, [10, 11, 12])
        self.has(file, 0, 1, 2)
        self.assertEqual(file.read(0, 3), [10, 11, 12])

    def test_the_size(self):
        for size, at, many, told in (
            (0, 0, 1, 1), (0, 5, 2, 7), (4, 4, 3, 7), (4, 3, 1, 4), (4, 3, 2, 5), (4, 9, 1, 10), (10, 2, 3, 10),
            (10, 0, 10, 10), (10, 0, 11, 11), (0, TOP - 24, 24, TOP), (0, TOP - 1, 1, TOP), (TOP, 0, 1, TOP),
            (TOP, TOP - 1, 1, TOP), (5, TOP - 2, 1, TOP - 1),
        ):
            with self.subTest(size=size, at=at, many=many):
                file = File(Pool(24))
                file.resize(size)
                file.write(at, [7] * many)
                self.assertEqual((file.size(), file.held()), (told, [(at, at + many)]))

    def test_what_lies_between_is_holes(self):
        file = File(Pool(5))
        file.write(0, [7])
        file.write(4, [8])
        self.has(file, 0, None, None, None, 1)
        self.assertEqual(file.read(0, 9), [7, 0, 0, 0, 8])

    def test_no_place(self):
        pool = Pool(2)
        file = File(pool)
        file.write(0, [1])
        before = file_state(file), pool_state(pool)
        for at, many in ((TOP, 1), (TOP, 24), (TOP - 1, 2), (TOP - 23, 24), (TOP - 1, 24)):
            self.refused(NoPlace, [at], file.write, at, [5] * many)
            self.assertEqual((file_state(file), pool_state(pool)), before)
        file.write(TOP - 1, [5])
        self.assertEqual((file.size(), file.held()), (TOP, [(0, 1), (TOP - 1, TOP)]))

    def test_just_sixty_places_and_one_more(self):
        pool = Pool(120)
        file = File(pool)
        for at in (0, 100):
            file.write(at, list(range(24)))
        file.write(200, list(range(12)))
        self.assertEqual(len(pool.kept()), 60)
        before = file_state(file), pool_state(pool)
        for at, many in ((212, 1), (24, 1), (99, 2), (211, 2), (23, 2), (500, 24), (TOP - 1, 1), (195, 6)):
            self.refused(TooFull, [], file.write, at, [5] * many)
            self.assertEqual((file_state(file), pool_state(pool)), before)
        file.write(200, [6] * 12)
        file.write(0, [7] * 24)
        self.assertEqual(len(pool.kept()), 60)
        file.make_holes(5, 1)
        file.write(50, [9])
        self.refused(TooFull, [], file.write, 51, [9])
        self.assertEqual(sum(many for _, many, _ in file.pieces()), 60)

    def test_too_full_counts_places_not_grains(self):
        pool = self.pool_with(120, 5)
        file = self.file_with(pool, *[0] * 59)
        file.write(59, [6])
        self.refused(TooFull, [], file.write, 60, [6])
        file.write(58, [7, 8])
        self.assertEqual(pool.holds(0), 59)

    def test_no_room(self):
        pool = Pool(3)
        file = File(pool)
        file.write(0, [1, 2])
        before = file_state(file), pool_state(pool)
        for at, many in ((2, 2), (5, 2), (1, 3), (0, 4), (2, 24)):
            self.refused(NoRoom, [], file.write, at, [9] * many)
            self.assertEqual((file_state(file), pool_state(pool)), before)
        file.write(1, [8, 9])
        self.assertEqual((file.read(0, 9), pool.left()), ([1, 8, 9], 0))

    def test_a_full_pool_takes_what_has_room_when_what_goes_is_gone(self):
        for room in (1, 2, 24):
            pool = Pool(room)
            file = File(pool)
            file.write(0, [1] * room)
            self.assertEqual(pool.left(), 0)
            self.refused(NoRoom, [], file.write, room, [5])
            file.write(0, [2] * room)
            self.assertEqual((file.read(0, 60), pool.left()), ([2] * room, 0))
            file.write(room - 1, [3])
            self.assertEqual((file.read(room - 1, 60), pool.left()), ([3], 0))
            if room > 1:
                self.refused(NoRoom, [], file.write, room - 1, [3, 4])
                self.refused(NoRoom, [], file.write, 1, [3] * room)

    def test_what_is_held_elsewhere_makes_no_room(self):
        pool = Pool(2)
        one, other = File(pool), File(pool)
        one.write(0, [5, 6])
        other.take(0, [0])
        before = file_state(one), file_state(other), pool_state(pool)
        self.refused(NoRoom, [], one.write, 0, [7])
        self.refused(NoRoom, [], one.write, 0, [7, 8])
        self.refused(NoRoom, [], other.write, 0, [7])
        self.assertEqual((file_state(one), file_state(other), pool_state(pool)), before)
        one.write(1, [7])
        self.assertEqual((one.read(0, 9), other.read(0, 9)), ([5, 7], [5]))
        other.make_holes(0, 1)
        one.write(0, [7, 8])
        self.assertEqual(one.read(0, 9), [7, 8])

    def test_what_is_held_beside_makes_no_room(self):
        pool = self.pool_with(1, 5)
        file = self.file_with(pool, 0)
        self.refused(NoRoom, [], file.write, 0, [6])
        pool.let_go(0)
        file.write(0, [6])
        self.has(file, 0)
        self.assertEqual(file.read(0, 1), [6])

    def test_a_grain_of_several_places_makes_room_when_all_of_them_go(self):
        pool = self.pool_with(2, 5, 6)
        file = self.file_with(pool, 0, 0, 1, 0)
        pool.let_go(0)
        pool.let_go(1)
        self.refused(NoRoom, [], file.write, 0, [7])
        self.refused(NoRoom, [], file.write, 0, [7, 8])
        self.refused(NoRoom, [], file.write, 0, [7, 8, 9])
        self.refused(NoRoom, [], file.write, 0, [7, 8, 9, 10])
        self.has(file, 0, 0, 1, 0)
        file.make_holes(3, 1)
        file.write(2, [9])
        self.refused(NoRoom, [], file.write, 0, [7, 8])
        file.make_holes(2, 1)
        file.write(0, [7, 8])
        self.has(file, 0, 1, None, None)
        self.assertEqual(file.read(0, 9), [7, 8, 0, 0])
        self.times(pool, 1, 1)

    def test_no_place_ahead_of_too_full_ahead_of_no_room(self):
        pool = self.pool_with(1, 5)
        file = self.file_with(pool, *[0] * 60, at=TOP - 60)
        before = file_state(file), pool_state(pool)
        self.refused(NoPlace, [TOP], file.write, TOP, [5])
        self.refused(NoPlace, [TOP - 1], file.write, TOP - 1, [5, 6])
        self.refused(TooFull, [], file.write, 0, [5])
        self.refused(TooFull, [], file.write, TOP - 61, [5, 6])
        self.refused(NoRoom, [], file.write, TOP - 1, [5])
        self.refused(NoRoom, [], file.write, TOP - 2, [5, 6])
        self.assertEqual((file_state(file), pool_state(pool)), before)
        file.make_holes(TOP - 1, 1)
        self.refused(NoPlace, [TOP], file.write, TOP, [5])
        self.refused(NoRoom, [], file.write, 0, [5])
        self.refused(TooFull, [], file.write, 0, [5, 6])


class TestTake(Case):
    def test_one_and_sixty(self):
        for many in (1, 2, 59, 60):
            pool = self.pool_with(2, 5, 6)
            file = File(pool)
            self.assertIsNone(file.take(0, [1] * many))
            self.has(file, *[1] * many)
            self.times(pool, 1, 1 + many)

    def test_grains_and_nones(self):
        pool = self.pool_with(3, 5, 6, 7)
        file = File(pool)
        file.take(2, [None, 2, 0, None, 0, 0, None])
        self.has(file, None, None, None, 2, 0, None, 0, 0, None)
        self.times(pool, 4, 1, 2)
        self.assertEqual(file.read(0, 60), [0, 0, 0, 7, 5, 0, 5, 5, 0])

    def test_nones_alone(self):
        pool = self.pool_with(1, 5)
        file = File(pool)
        file.take(3, [None])
        self.has(file, None, None, None, None)
        file.take(0, [None] * 60)
        self.has(file, *[None] * 60)
        file.take(TOP - 60, [None] * 60)
        self.assertEqual(file_state(file), (TOP, [], [], [], []))
        self.times(pool, 1)

    def test_what_was_there_is_let_go(self):
        pool = self.pool_with(3, 5, 6, 7)
        file = self.file_with(pool, 0, 1, 1, 2)
        for grain in range(3):
            pool.let_go(grain)
        file.take(1, [0, None])
        self.has(file, 0, 0, None, 2)
        self.times(pool, 2, 0, 1)
        self.assertEqual(pool.lay(8), 1)

    def test_grains_of_the_very_places_that_go(self):
        pool = Pool(3)
        file = File(pool)
        file.write(0, [5, 6, 7])
        file.take(0, [2, 0, 1])
        self.has(file, 2, 0, 1)
        self.times(pool, 1, 1, 1)
        self.assertEqual(file.read(0, 9), [7, 5, 6])
        file.take(0, [2, 0, 1])
        self.times(pool, 1, 1, 1)
        file.take(0, [0, 0, 0, 0])
        self.has(file, 0, 0, 0, 0)
        self.times(pool, 4, 0, 0)
        file.take(0, [None, None, None, 0])
        self.has(file, None, None, None, 0)
        self.times(pool, 1)
        file.take(3, [0])
        self.times(pool, 1)
        file.take(3, [None])
        self.times(pool)

    def test_the_size(self):
        for size, at, many, told in (
            (0, 0, 1, 1), (0, 5, 2, 7), (4, 4, 3, 7), (4, 3, 1, 4), (4, 3, 2, 5), (4, 9, 1, 10), (10, 2, 3, 10),
            (0, TOP - 60, 60, TOP), (0, TOP - 1, 1, TOP), (TOP, 0, 1, TOP), (TOP, TOP - 1, 1, TOP),
        ):
            for grain in (None, 0):
                with self.subTest(size=size, at=at, many=many, grain=grain):
                    file = File(self.pool_with(1, 5))
                    file.resize(size)
                    file.take(at, [grain] * many)
                    self.assertEqual(file.size(), told)
                    self.assertEqual(file.held(), [] if grain is None else [(at, at + many)])

    def test_no_grain_is_the_first_that_is_not_kept(self):
        pool = self.pool_with(4, 5, 6, 7)
        pool.let_go(1)
        file = self.file_with(pool, 0, 2)
        before = file_state(file), pool_state(pool)
        for grains, first in (
            ([1], 1), ([3], 3), ([0, 2, 1], 1), ([0, None, 5, 1], 5), ([None, 10 ** 5000, 1], 10 ** 5000),
            ([2] * 59 + [1], 1), ([1] + [2] * 59, 1), ([0, 7, 3, 1], 7), ([120], 120),
        ):
            self.refused(NoGrain, [first], file.take, 0, grains)
            self.assertEqual((file_state(file), pool_state(pool)), before)
        file.take(0, [2, None, 0])
        self.has(file, 2, None, 0)

    def test_grains_of_another_pool_are_not_looked_at(self):
        one, other = self.pool_with(2, 5), self.pool_with(2, 6, 7)
        file = File(one)
        self.refused(NoGrain, [1], file.take, 0, [0, 1])
        self.assertEqual(pool_state(other), ([(0, 6, 1), (1, 7, 1)], 0))

    def test_no_place(self):
        pool = self.pool_with(1, 5)
        file = self.file_with(pool, 0)
        before = file_state(file), pool_state(pool)
        for at, many in ((TOP, 1), (TOP, 60), (TOP - 1, 2), (TOP - 59, 60), (TOP - 1, 60)):
            for grain in (None, 0):
                self.refused(NoPlace, [at], file.take, at, [grain] * many)
                self.assertEqual((file_state(file), pool_state(pool)), before)

    def test_just_sixty_places_and_one_more(self):
        pool = self.pool_with(1, 5)
        file = self.file_with(pool, *[0] * 60)
        before = file_state(file), pool_state(pool)
        for at, grains in ((60, [0]), (59, [0, 0]), (1, [0] * 60), (TOP - 1, [0]), (60, [None, 0]), (99, [0] * 60)):
            self.refused(TooFull, [], file.take, at, grains)
            self.assertEqual((file_state(file), pool_state(pool)), before)
        file.take(60, [None] * 40)
        self.assertEqual((file.size(), file.held()), (100, [(0, 60)]))
        file.take(59, [None, 0])
        self.assertEqual(file.held(), [(0, 59), (60, 61)])
        self.refused(TooFull, [], file.take, 59, [0])
        file.take(0, [0] * 59 + [None])
        file.take(0, [None] * 60)
        file.take(200, [0] * 59)
        self.assertEqual(file.held(), [(60, 61), (200, 259)])
        self.times(pool, 61)

    def test_no_grain_ahead_of_no_place_ahead_of_too_full(self):
        pool = self.pool_with(1, 5)
        file = self.file_with(pool, *[0] * 60, at=TOP - 60)
        self.refused(NoGrain, [1], file.take, TOP, [0, 1])
        self.refused(NoGrain, [9], file.take, 0, [9, 1])
        self.refused(NoGrain, [9], file.take, TOP - 1, [0, None, 9])
        self.refused(NoPlace, [TOP], file.take, TOP, [0])
        self.refused(NoPlace, [TOP - 1], file.take, TOP - 1, [0, 0])
        self.refused(NoPlace, [TOP - 50], file.take, TOP - 50, [0] * 60)
        self.refused(TooFull, [], file.take, TOP - 61, [0])
        self.refused(TooFull, [], file.take, 0, [0])
        self.assertEqual(pool.holds(0), 61)

    def test_a_full_pool_takes(self):
        pool = Pool(1)
        file = File(pool)
        file.write(0, [5])
        file.take(1, [0] * 59)
        self.times(pool, 60)
        file.resize(1)
        self.times(pool, 1)


if __name__ == "__main__":
    unittest.main()
