"""Point 3 for the functions of spans: whose the lists are, and that the same is told again."""

import copy
import unittest

from lentloft.spans import both, either, gaps, has_place, is_normal, less, many_in, spans_of
from tests.samples import TOP

CALLS = (
    (spans_of, [(5, 9), (0, 3), (2, 4), (7, 7)]),
    (spans_of, [(0, 3), (5, 9)]),
    (spans_of, []),
    (either, [(0, 3)], [(2, 5), (7, 9)]),
    (either, [(0, 3), (5, 6)], []),
    (either, [], [(0, 3), (5, 6)]),
    (either, [(0, 3)], [(0, 3)]),
    (both, [(0, 3), (5, 9)], [(2, 6)]),
    (both, [(0, 3), (5, 9)], [(0, TOP)]),
    (both, [(0, TOP)], [(0, 3), (5, 9)]),
    (both, [(0, 3)], [(0, 3)]),
    (less, [(0, 3), (5, 9)], [(2, 6)]),
    (less, [(0, 3), (5, 9)], []),
    (less, [(0, 3)], [(5, 9)]),
    (less, [], [(5, 9)]),
    (gaps, [(2, 6)], 9),
    (gaps, [], 9),
    (gaps, [], 0),
    (many_in, [(2, 6), (8, 9)]),
    (has_place, [(2, 6), (8, 9)], 5),
    (is_normal, [(2, 6), (8, 9)]),
    (is_normal, [(2, 6), (6, 9), [1]]),
)


class TestOwn(unittest.TestCase):
    def test_what_is_handed_in_stays_as_it_was(self):
        for function, *things in CALLS:
            as_they_were = copy.deepcopy(things)
            function(*things)
            self.assertEqual(things, as_they_were, function.__name__)

    def test_the_same_is_told_again(self):
        for function, *things in CALLS:
            first = copy.deepcopy(function(*things))
            self.assertEqual(function(*things), first, function.__name__)
            self.assertEqual(function(*copy.deepcopy(things)), first, function.__name__)

    def test_each_list_that_is_told_is_a_new_one(self):
        for function, *things in CALLS:
            answer, again = function(*things), function(*things)
            if isinstance(answer, list):
                self.assertIsNot(answer, again, function.__name__)
                for thing in things:
                    self.assertIsNot(answer, thing, function.__name__)

    def test_what_is_done_to_a_told_list_changes_nothing(self):
        for function, *things in CALLS:
            things, as_they_were = copy.deepcopy(things), copy.deepcopy(things)
            answer = function(*things)
            if isinstance(answer, list):
                expected = list(answer)
                answer.append("more")
                answer.reverse()
                self.assertEqual(things, as_they_were, function.__name__)
                self.assertEqual(function(*things), expected, function.__name__)
                answer.clear()
                self.assertEqual(function(*things), expected, function.__name__)

    def test_what_is_done_to_a_list_behind_a_call_changes_no_answer(self):
        for function, *things in CALLS:
            things = copy.deepcopy(things)
            answer = function(*things)
            expected = copy.deepcopy(answer)
            for thing in things:
                if isinstance(thing, list):
                    thing.append((TOP - 1, TOP))
                    thing.reverse()
            self.assertEqual(answer, expected, function.__name__)

    def test_a_list_that_was_changed_is_answered_as_it_is_then(self):
        one, other = [(0, 3)], [(2, 5)]
        self.assertEqual(
            (spans_of(one), either(one, other), both(one, other), less(one, other), gaps(one, 9)),
            ([(0, 3)], [(0, 5)], [(2, 3)], [(0, 2)], [(3, 9)]),
        )
        self.assertEqual((many_in(one), has_place(one, 7), is_normal(one)), (3, False, True))
        one.append((6, 8))
        other[0] = (1, 2)
        self.assertEqual(
            (spans_of(one), either(one, other), both(one, other), less(one, other), gaps(one, 9)),
            ([(0, 3), (6, 8)], [(0, 3), (6, 8)], [(1, 2)], [(0, 1), (2, 3), (6, 8)], [(3, 6), (8, 9)]),
        )
        self.assertEqual((many_in(one), has_place(one, 7), is_normal(one)), (5, True, True))
        one.reverse()
        self.assertEqual((spans_of(one), is_normal(one)), ([(0, 3), (6, 8)], False))

    def test_one_list_handed_in_twice(self):
        spans = [(0, 3), (5, 9)]
        self.assertEqual(either(spans, spans), [(0, 3), (5, 9)])
        self.assertEqual(both(spans, spans), [(0, 3), (5, 9)])
        self.assertEqual(less(spans, spans), [])
        self.assertEqual(spans, [(0, 3), (5, 9)])


if __name__ == "__main__":
    unittest.main()
