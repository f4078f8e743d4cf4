"""Points 12 and 13: what a normal list is, and the normal list of some stretches."""

import itertools
import random
import unittest

from lentloft.spans import is_normal, spans_of
from tests.samples import TOP, all_normals, moved, no_normals, normal_of, places_of, stretched


class TestIsNormal(unittest.TestCase):
    def test_normal_lists(self):
        for spans in (
            [], [(0, 1)], [(5, 6)], [(0, TOP)], [(TOP - 1, TOP)], [(0, 10 ** 9 + 1)],
            [(0, 1), (2, 3)], [(0, 5), (6, 7)], [(0, 1), (TOP - 1, TOP)], [(0, TOP - 2), (TOP - 1, TOP)],
            [(0, 1), (2, 3), (4, 5), (8, 100), (10 ** 9, 10 ** 11)],
            [(2 * k, 2 * k + 1) for k in range(5000)],
        ):
            self.assertIs(is_normal(spans), True, spans[:5])

    def test_what_is_no_normal_list(self):
        for thing in no_normals():
            with self.subTest(kind=type(thing)):
                self.assertIs(is_normal(thing), False)

    def test_all_lists_of_up_to_three_small_stretches(self):
        stretches = [(first, behind) for first in range(5) for behind in range(5)]
        normals = [tuple(spans) for spans in all_normals(4)]
        for many in range(4):
            for some in itertools.product(stretches, repeat=many):
                self.assertIs(is_normal(list(some)), some in normals, some)

    def test_a_fault_far_behind(self):
        spans = [(3 * k, 3 * k + 1) for k in range(2000)]
        self.assertIs(is_normal(spans), True)
        for fault in ((5998, 5999), (6000, 6000), (6001, 6000), (0, 1), [6000, 6001], (6000, TOP + 1), (6000, True)):
            self.assertIs(is_normal(spans + [fault]), False, fault)


class TestSpansOf(unittest.TestCase):
    def told(self, stretches, expected):
        answer = spans_of(stretches)
        self.assertEqual(answer, expected, stretches)
        self.assertIs(type(answer), list)
        self.assertTrue(all(type(span) is tuple for span in answer))
        self.assertIs(is_normal(answer), True)

    def test_some(self):
        self.told([], [])
        self.told([(0, 0)], [])
        self.told([(TOP, TOP), (0, 0), (7, 7)], [])
        self.told([(3, 8)], [(3, 8)])
        self.told([(0, TOP)], [(0, TOP)])
        self.told([(5, 6), (0, 1)], [(0, 1), (5, 6)])
        self.told([(0, 5), (5, 9)], [(0, 9)])
        self.told([(5, 9), (0, 5)], [(0, 9)])
        self.told([(0, 5), (6, 9)], [(0, 5), (6, 9)])
        self.told([(0, 10), (2, 3)], [(0, 10)])
        self.told([(0, 10), (2, 3), (10, 12)], [(0, 12)])
        self.told([(0, 10), (2, 3), (4, 12)], [(0, 12)])
        self.told([(0, 10), (2, 3), (11, 12)], [(0, 10), (11, 12)])
        self.told([(4, 9), (4, 5), (4, 9), (4, 6)], [(4, 9)])

    def test_stretches_without_places(self):
        self.told([(0, 5), (6, 6), (7, 9)], [(0, 5), (7, 9)])
        self.told([(0, 5), (5, 5), (5, 9)], [(0, 9)])
        self.told([(5, 5), (0, 5)], [(0, 5)])
        self.told([(5, 5), (6, 9)], [(6, 9)])
        self.told([(5, 5), (5, 9)], [(5, 9)])
        self.told([(2, 2), (0, 5)], [(0, 5)])
        self.told([(5, 5)] * 40, [])

    def test_near_the_ends(self):
        self.told([(TOP - 1, TOP), (TOP - 2, TOP - 1)], [(TOP - 2, TOP)])
        self.told([(TOP - 1, TOP), (0, 1), (TOP, TOP)], [(0, 1), (TOP - 1, TOP)])
        self.told([(0, TOP - 1), (TOP - 1, TOP)], [(0, TOP)])
        self.told([(1, TOP), (0, 1)], [(0, TOP)])
        self.told([(1, TOP), (0, 0)], [(1, TOP)])
        self.told([(0, TOP)] * 40, [(0, TOP)])

    def test_forty(self):
        apart = [(10 * k, 10 * k + 5) for k in range(40)]
        self.told(apart, apart)
        self.told(apart[::-1], apart)
        touching = [(10 * k, 10 * k + 10) for k in range(40)]
        self.told(touching, [(0, 400)])
        self.told(touching[::-1], [(0, 400)])
        self.told(touching[::2] + touching[1::2], [(0, 400)])
        within = [(k, TOP - k) for k in range(40)]
        self.told(within, [(0, TOP)])
        self.told(within[::-1], [(0, TOP)])

    def test_all_of_up_to_three_small_stretches(self):
        stretches = [(first, behind) for behind in range(6) for first in range(behind + 1)]
        for many in range(4):
            for some in itertools.product(stretches, repeat=many):
                self.told(list(some), normal_of(places_of(some)))

    def test_many_of_each_number_of_stretches(self):
        chance = random.Random(13)
        for many in range(41):
            for size in (30, 100, 400):
                some = [self.stretch(chance, size) for each in range(many)]
                expected = normal_of(places_of(some))
                self.told(some, expected)
                self.told(moved(some, TOP - size), moved(expected, TOP - size))
                self.told(stretched(some, TOP // size), stretched(expected, TOP // size))

    def stretch(self, chance, size):
        first = chance.randint(0, size)
        return (first, min(size, first + chance.randint(0, 9)))


if __name__ == "__main__":
    unittest.main()
