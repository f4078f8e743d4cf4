"""Points 12 and 13: what is told of normal lists."""

import random
import unittest

from lentloft.spans import both, either, gaps, has_place, is_normal, less, many_in
from tests.samples import TOP, all_normals, moved, normal_of, places_of, stretched


class SpansCase(unittest.TestCase):
    def told(self, answer, expected, *handed_in):
        self.assertEqual(answer, expected, handed_in)
        self.assertIs(type(answer), list)
        self.assertTrue(all(type(span) is tuple for span in answer))
        self.assertIs(is_normal(answer), True)

    def told_of_two(self, one, other, in_either, in_both, in_one):
        self.told(either(one, other), in_either, one, other)
        self.told(both(one, other), in_both, one, other)
        self.told(less(one, other), in_one, one, other)


class TestTwoLists(SpansCase):
    def test_some(self):
        self.told_of_two([], [], [], [], [])
        self.told_of_two([(2, 5)], [], [(2, 5)], [], [(2, 5)])
        self.told_of_two([], [(2, 5)], [(2, 5)], [], [])
        self.told_of_two([(2, 5)], [(2, 5)], [(2, 5)], [(2, 5)], [])
        self.told_of_two([(0, 5)], [(5, 9)], [(0, 9)], [], [(0, 5)])
        self.told_of_two([(5, 9)], [(0, 5)], [(0, 9)], [], [(5, 9)])
        self.told_of_two([(0, 5)], [(4, 9)], [(0, 9)], [(4, 5)], [(0, 4)])
        self.told_of_two([(0, 9)], [(3, 5)], [(0, 9)], [(3, 5)], [(0, 3), (5, 9)])
        self.told_of_two([(3, 5)], [(0, 9)], [(0, 9)], [(3, 5)], [])
        self.told_of_two([(0, 2), (4, 6)], [(2, 4), (6, 8)], [(0, 8)], [], [(0, 2), (4, 6)])
        self.told_of_two([(0, 2), (4, 6)], [(1, 5)], [(0, 6)], [(1, 2), (4, 5)], [(0, 1), (5, 6)])

    def test_the_whole_and_its_ends(self):
        whole = [(0, TOP)]
        ends = [(0, 1), (TOP - 1, TOP)]
        self.told_of_two(whole, whole, whole, whole, [])
        self.told_of_two(whole, [], whole, [], whole)
        self.told_of_two([], whole, whole, [], [])
        self.told_of_two(whole, ends, whole, ends, [(1, TOP - 1)])
        self.told_of_two(ends, whole, whole, ends, [])
        self.told_of_two(ends, [(1, TOP - 1)], whole, [], ends)
        self.told_of_two([(0, 1)], [(TOP - 1, TOP)], ends, [], [(0, 1)])
        self.told_of_two([(TOP - 1, TOP)], [(0, 1)], ends, [], [(TOP - 1, TOP)])
        self.told_of_two([(0, TOP - 1)], [(1, TOP)], whole, [(1, TOP - 1)], [(0, 1)])

    def test_all_pairs_of_small_lists(self):
        lists = all_normals(6)
        sets = [places_of(spans) for spans in lists]
        for one, ones in zip(lists, sets):
            for other, others in zip(lists, sets):
                self.told_of_two(
                    one, other, normal_of(ones | others), normal_of(ones & others), normal_of(ones - others)
                )

    def test_pairs_moved_and_stretched(self):
        lists = all_normals(5)
        sets = [places_of(spans) for spans in lists]
        for change, by in ((moved, TOP - 5), (stretched, TOP // 5)):
            for one, ones in zip(lists, sets):
                for other, others in zip(lists, sets):
                    self.told_of_two(
                        change(one, by), change(other, by), change(normal_of(ones | others), by),
                        change(normal_of(ones & others), by), change(normal_of(ones - others), by),
                    )

    def test_long_lists(self):
        chance = random.Random(12)
        size = 9000
        for each in range(6):
            ones = {place for place in range(size) if chance.randint(0, 2 + each)}
            others = {place for place in range(size) if not chance.randint(0, 2 + each)}
            one, other = normal_of(ones), normal_of(others)
            self.assertGreater(len(other), 600)
            in_either, in_both, in_one = normal_of(ones | others), normal_of(ones & others), normal_of(ones - others)
            self.told_of_two(one, other, in_either, in_both, in_one)
            by = TOP // size
            self.told_of_two(
                stretched(one, by), stretched(other, by),
                stretched(in_either, by), stretched(in_both, by), stretched(in_one, by),
            )

    def test_thousands_of_stretches(self):
        far = TOP // 10000
        even = [(2 * k * far, (2 * k + 1) * far) for k in range(5000)]
        odd = [((2 * k + 1) * far, (2 * k + 2) * far) for k in range(5000)]
        self.told_of_two(even, odd, [(0, TOP)], [], even)
        self.told_of_two(odd, even, [(0, TOP)], [], odd)
        self.told_of_two(even, even, even, even, [])
        self.told_of_two(even, [], even, [], even)
        self.told_of_two([], even, even, [], [])
        self.told_of_two([(0, TOP)], even, [(0, TOP)], even, odd)
        self.told_of_two(even, [(0, TOP)], [(0, TOP)], even, [])
        self.told_of_two(even[:2500], even[2500:], even, [], even[:2500])


class TestGaps(SpansCase):
    def test_some(self):
        self.told(gaps([], 0), [])
        self.told(gaps([], 1), [(0, 1)])
        self.told(gaps([], TOP), [(0, TOP)])
        self.told(gaps([(0, TOP)], TOP), [])
        self.told(gaps([(0, TOP)], 0), [])
        self.told(gaps([(0, TOP)], 5), [])
        self.told(gaps([(TOP - 1, TOP)], TOP), [(0, TOP - 1)])
        self.told(gaps([(0, TOP - 1)], TOP), [(TOP - 1, TOP)])
        self.told(gaps([(0, TOP - 1)], TOP - 1), [])
        self.told(gaps([(1, TOP)], TOP), [(0, 1)])
        self.told(gaps([(1, 2)], TOP), [(0, 1), (2, TOP)])

    def test_sizes_at_and_beside_the_ends(self):
        spans = [(3, 6), (8, 9)]
        expected = {
            0: [], 1: [(0, 1)], 2: [(0, 2)], 3: [(0, 3)], 4: [(0, 3)], 5: [(0, 3)], 6: [(0, 3)],
            7: [(0, 3), (6, 7)], 8: [(0, 3), (6, 8)], 9: [(0, 3), (6, 8)], 10: [(0, 3), (6, 8), (9, 10)],
            TOP: [(0, 3), (6, 8), (9, TOP)],
        }
        for size, told in expected.items():
            self.told(gaps(spans, size), told, size)

    def test_all_small_lists_and_sizes(self):
        for spans in all_normals(7):
            places = places_of(spans)
            for size in range(10):
                self.told(gaps(spans, size), normal_of(set(range(size)) - places), spans, size)
                by = TOP // 10
                expected = stretched(normal_of(set(range(size)) - places), by)
                self.told(gaps(stretched(spans, by), size * by), expected, spans, size)

    def test_long_lists(self):
        far = TOP // 10000
        even = [(2 * k * far, (2 * k + 1) * far) for k in range(5000)]
        odd = [((2 * k + 1) * far, (2 * k + 2) * far) for k in range(5000)]
        self.told(gaps(even, TOP), odd)
        self.told(gaps(odd, TOP), even)
        self.told(gaps(even, TOP // 2), odd[:2500])
        self.told(gaps(even, TOP - 1), odd[:-1] + [(TOP - far, TOP - 1)])


class TestManyIn(unittest.TestCase):
    def told(self, spans, many):
        answer = many_in(spans)
        self.assertEqual(answer, many, spans[:5])
        self.assertIs(type(answer), int)

    def test_some(self):
        self.told([], 0)
        self.told([(0, 1)], 1)
        self.told([(7, 19)], 12)
        self.told([(0, TOP)], TOP)
        self.told([(TOP - 1, TOP)], 1)
        self.told([(0, TOP - 2), (TOP - 1, TOP)], TOP - 1)

    def test_all_small_lists(self):
        for spans in all_normals(9):
            self.told(spans, len(places_of(spans)))

    def test_a_long_list(self):
        self.told([(10 ** 8 * k, 10 ** 8 * k + k + 1) for k in range(4000)], sum(range(1, 4001)))


class TestHasPlace(unittest.TestCase):
    def test_at_and_beside_the_ends(self):
        spans = [(3, 6), (8, 9), (10 ** 6, TOP)]
        for place in (3, 4, 5, 8, 10 ** 6, 10 ** 6 + 1, 10 ** 11, TOP - 1):
            self.assertIs(has_place(spans, place), True, place)
        for place in (0, 1, 2, 6, 7, 9, 10, 10 ** 6 - 1, TOP):
            self.assertIs(has_place(spans, place), False, place)

    def test_none_and_the_whole(self):
        for place in (0, 1, 10 ** 9, TOP - 1, TOP):
            self.assertIs(has_place([], place), False, place)
            self.assertIs(has_place([(0, TOP)], place), place < TOP, place)
        self.assertIs(has_place([(TOP - 1, TOP)], TOP - 1), True)
        self.assertIs(has_place([(TOP - 1, TOP)], TOP - 2), False)
        self.assertIs(has_place([(0, 1)], 0), True)
        self.assertIs(has_place([(0, 1)], 1), False)

    def test_all_small_lists(self):
        for spans in all_normals(8):
            places = places_of(spans)
            for place in range(10):
                self.assertIs(has_place(spans, place), place in places, (spans, place))

    def test_long_lists(self):
        for many in (1000, 1001, 1024):
            spans = [(10 ** 8 * k, 10 ** 8 * k + 10 ** 7) for k in range(many)]
            for k in range(0, many):
                first, behind = spans[k]
                self.assertIs(has_place(spans, first), True)
                if k in (0, 1, 499, 500, 511, 512, many - 2, many - 1):
                    self.assertIs(has_place(spans, behind - 1), True)
                    self.assertIs(has_place(spans, behind), False)
                    self.assertIs(has_place(spans, first + 10 ** 8 - 1), False)


if __name__ == "__main__":
    unittest.main()
