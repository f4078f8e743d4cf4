"""Points 14 to 16: pools."""

import itertools
import random
import unittest

from lentloft.errors import NoGrain, NoRoom
from lentloft.pool import Pool
from tests.cases import Case, pool_state
from tests.samples import no_contents, no_grains, no_rooms

ROOMS = (1, 2, 3, 7, 119, 120)


class TestLay(Case):
    def test_a_new_pool_keeps_none(self):
        for room in range(1, 121):
            pool = Pool(room)
            self.assertEqual((pool.kept(), pool.left()), ([], room))

    def test_up_to_the_room_and_no_more(self):
        for room in ROOMS:
            pool = Pool(room)
            for grain in range(room):
                told = pool.lay(10 ** 9 - grain)
                self.assertEqual(told, grain)
                self.assertIs(type(told), int)
                self.assertEqual(pool.kept(), list(range(grain + 1)))
                self.assertEqual(pool.left(), room - grain - 1)
            before = pool_state(pool)
            for again in range(3):
                self.refused(NoRoom, [], pool.lay, again)
                self.assertEqual(pool_state(pool), before)
            self.assertEqual([pool.content_of(grain) for grain in range(room)], [10 ** 9 - k for k in range(room)])
            self.assertEqual([pool.holds(grain) for grain in range(room)], [1] * room)

    def test_contents_of_all_sizes_and_alike(self):
        pool = Pool(120)
        contents = [0, 1, 10 ** 9, 10 ** 9 - 1, 0, 0, 7, 7, 10 ** 9]
        for grain, content in enumerate(contents):
            self.assertEqual(pool.lay(content), grain)
            self.assertEqual(pool.content_of(grain), content)
            self.assertIs(type(pool.content_of(grain)), int)
        self.assertEqual(pool.kept(), list(range(9)))

    def test_held_more_often_takes_no_more_room(self):
        pool = Pool(2)
        pool.lay(5)
        for _ in range(300):
            self.assertIsNone(pool.hold(0))
        self.assertEqual((pool.holds(0), pool.left()), (301, 1))
        self.assertEqual(pool.lay(6), 1)
        self.refused(NoRoom, [], pool.lay, 7)

    def test_the_least_number_that_none_has(self):
        for room in (1, 120):
            pool = Pool(room)
            for grain in range(room):
                pool.lay(grain)
            for grain in (0, room - 1, room // 2, 0):
                self.refused(NoRoom, [], pool.lay, 1)
                self.assertIs(pool.let_go(grain), True)
                self.assertEqual(pool.left(), 1)
                self.assertEqual(pool.lay(1000 + grain), grain)
                self.assertEqual(pool.content_of(grain), 1000 + grain)

    def test_the_least_number_in_every_order_of_going(self):
        for order in itertools.permutations(range(4)):
            pool = Pool(5)
            for grain in range(4):
                pool.lay(grain)
            gone = []
            for grain in order:
                self.assertIs(pool.let_go(grain), True)
                gone.append(grain)
                self.assertEqual(pool.kept(), [each for each in range(4) if each not in gone])
                self.assertEqual(pool.left(), 1 + len(gone))
            for grain in range(5):
                self.assertEqual(pool.lay(50 + grain), grain)

    def test_some_go_and_others_come(self):
        pool = self.pool_with(6, 0, 10, 20, 30, 40)
        for grain in (3, 1):
            pool.let_go(grain)
        self.assertEqual(pool.kept(), [0, 2, 4])
        self.assertEqual([pool.lay(content) for content in (7, 8, 9)], [1, 3, 5])
        self.refused(NoRoom, [], pool.lay, 6)
        self.assertEqual([pool.content_of(grain) for grain in pool.kept()], [0, 7, 20, 8, 40, 9])


class TestHolding(Case):
    def test_held_and_let_go(self):
        pool = self.pool_with(3, 5)
        self.assertEqual(pool.holds(0), 1)
        self.assertIsNone(pool.hold(0))
        self.assertEqual(pool.holds(0), 2)
        self.assertIsNone(pool.hold(0))
        self.assertEqual(pool.holds(0), 3)
        self.assertIs(pool.let_go(0), False)
        self.assertIs(pool.let_go(0), False)
        self.assertEqual((pool.holds(0), pool.kept(), pool.content_of(0)), (1, [0], 5))
        self.assertIs(pool.let_go(0), True)
        self.assertEqual((pool.kept(), pool.left()), ([], 3))

    def test_a_number_that_comes_again_is_a_new_grain(self):
        pool = self.pool_with(1, 5)
        pool.hold(0)
        pool.let_go(0)
        pool.let_go(0)
        self.assertEqual(pool.lay(6), 0)
        self.assertEqual((pool.content_of(0), pool.holds(0)), (6, 1))
        self.assertIs(pool.let_go(0), True)

    def test_each_grain_for_itself(self):
        pool = self.pool_with(4, 5, 5, 5)
        pool.hold(1)
        pool.hold(1)
        pool.hold(2)
        self.times(pool, 1, 3, 2)
        self.assertIs(pool.let_go(2), False)
        self.assertIs(pool.let_go(0), True)
        self.times(pool, 0, 3, 1)

    def test_no_grain(self):
        pool = self.pool_with(4, 5, 6, 7)
        pool.let_go(1)
        before = pool_state(pool)
        for grain in (1, 3, 4, 119, 120, 121, 10 ** 12, 10 ** 5000):
            for method in (pool.hold, pool.let_go, pool.content_of, pool.holds):
                self.refused(NoGrain, [grain], method, grain)
                self.assertEqual(pool_state(pool), before)
        self.assertEqual(pool.lay(8), 1)

    def test_no_grain_of_a_new_pool_and_of_a_grain_that_is_free(self):
        pool = Pool(1)
        for method in (pool.hold, pool.let_go, pool.content_of, pool.holds):
            self.refused(NoGrain, [0], method, 0)
        pool.lay(1)
        pool.let_go(0)
        for method in (pool.hold, pool.let_go, pool.content_of, pool.holds):
            self.refused(NoGrain, [0], method, 0)
        self.assertEqual(pool_state(pool), ([], 1))

    def test_by_chance(self):
        for room, seed in ((1, 1), (2, 2), (5, 3), (120, 4)):
            chance = random.Random(seed)
            pool, held, contents = Pool(room), {}, {}
            for _ in range(1500):
                grain = chance.randrange(room)
                word = chance.choice(("lay", "lay", "hold", "let_go", "let_go"))
                if word == "lay" and len(held) == room:
                    self.refused(NoRoom, [], pool.lay, 1)
                elif word == "lay":
                    grain = min(each for each in range(room) if each not in held)
                    contents[grain], held[grain] = chance.randint(0, 10 ** 9), 1
                    self.assertEqual(pool.lay(contents[grain]), grain)
                elif grain not in held:
                    self.refused(NoGrain, [grain], getattr(pool, word), grain)
                elif word == "hold":
                    held[grain] += 1
                    self.assertIsNone(pool.hold(grain))
                else:
                    held[grain] -= 1
                    self.assertIs(pool.let_go(grain), held[grain] == 0)
                    held = {each: many for each, many in held.items() if many}
                told = [(each, contents[each], held[each]) for each in sorted(held)]
                self.assertEqual(pool_state(pool), (told, room - len(held)))


class TestTwoPools(Case):
    def test_they_know_nothing_of_one_another(self):
        one, other = Pool(2), Pool(120)
        self.assertEqual((one.lay(1), other.lay(11), other.lay(12), one.lay(2), other.lay(13)), (0, 0, 1, 1, 2))
        self.refused(NoRoom, [], one.lay, 3)
        one.hold(0)
        self.assertIs(other.let_go(0), True)
        self.refused(NoGrain, [2], one.holds, 2)
        self.refused(NoGrain, [0], other.holds, 0)
        self.assertEqual(pool_state(one), ([(0, 1, 2), (1, 2, 1)], 0))
        self.assertEqual(pool_state(other), ([(1, 12, 1), (2, 13, 1)], 118))
        self.assertEqual(other.lay(14), 0)
        self.assertEqual(pool_state(one), ([(0, 1, 2), (1, 2, 1)], 0))


class TestWrong(Case):
    def test_rooms(self):
        for thing in no_rooms():
            self.wrong(0, Pool, thing)

    def test_contents(self):
        pool = self.pool_with(2, 5)
        for thing in no_contents():
            self.wrong(0, pool.lay, thing)
        self.assertEqual(pool_state(pool), ([(0, 5, 1)], 1))
        self.assertEqual(pool.lay(6), 1)

    def test_wrong_goes_ahead_of_no_room(self):
        pool = self.pool_with(1, 5)
        for thing in no_contents():
            self.wrong(0, pool.lay, thing)

    def test_grains(self):
        pool = self.pool_with(2, 5, 6)
        for thing in no_grains():
            for method in (pool.hold, pool.let_go, pool.content_of, pool.holds):
                self.wrong(0, method, thing)
        self.assertEqual(pool_state(pool), ([(0, 5, 1), (1, 6, 1)], 0))


class TestOwn(Case):
    def test_the_kept_grains_are_the_asker_s_own(self):
        pool = self.pool_with(3, 5, 6)
        told = pool.kept()
        told.append(7)
        told.reverse()
        self.assertEqual(pool.kept(), [0, 1])
        told.clear()
        self.assertEqual((pool.kept(), pool.left()), ([0, 1], 1))
        self.assertEqual(pool.lay(1), 2)

    def test_what_was_told_stays_as_it_was(self):
        pool = self.pool_with(3, 5, 6)
        told = pool.kept()
        pool.lay(7)
        pool.let_go(0)
        self.assertEqual(told, [0, 1])
        self.assertIsNot(pool.kept(), pool.kept())

    def test_asking_changes_nothing(self):
        pool = self.pool_with(3, 5, 6)
        for _ in range(3):
            self.assertEqual((pool.kept(), pool.left(), pool.content_of(1), pool.holds(1)), ([0, 1], 1, 6, 1))


if __name__ == "__main__":
    unittest.main()
