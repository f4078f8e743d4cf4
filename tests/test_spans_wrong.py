"""Point 4 for the functions of spans: which argument is refused, ahead of all else."""

import unittest

from lentloft.errors import Wrong
from lentloft.spans import both, either, gaps, has_place, less, many_in, spans_of
from tests.samples import TOP, no_lists, no_normals, no_places, no_stretches

NORMALS = ([], [(0, 3)], [(0, 1), (5, TOP)])


class TestWrong(unittest.TestCase):
    def wrong(self, at, function, *things):
        with self.subTest(function=function.__name__, kinds=[type(thing) for thing in things]):
            with self.assertRaises(Wrong) as caught:
                function(*things)
            self.assertEqual(caught.exception.at, at)
            self.assertIs(type(caught.exception.at), int)

    def test_spans_of(self):
        for thing in no_lists():
            self.wrong(0, spans_of, thing)
        for thing in no_stretches():
            self.wrong(0, spans_of, [thing])
            self.wrong(0, spans_of, [(0, 1), thing])
            self.wrong(0, spans_of, [thing, (0, 1)])
            self.wrong(0, spans_of, [(0, 1)] * 39 + [thing])

    def test_spans_of_too_many(self):
        for many in (41, 42, 80, 1000):
            self.wrong(0, spans_of, [(0, 1)] * many)
            self.wrong(0, spans_of, [(5, 5)] * many)
            self.wrong(0, spans_of, [(2 * k, 2 * k + 1) for k in range(many)])
        self.assertEqual(spans_of([(0, 1)] * 40), [(0, 1)])

    def test_two_normal_lists(self):
        for function in (either, both, less):
            for thing in no_normals():
                for spans in NORMALS:
                    self.wrong(0, function, thing, spans)
                    self.wrong(1, function, spans, thing)
                self.wrong(0, function, thing, thing)
                self.wrong(0, function, thing, None)
                self.wrong(0, function, [(0, 0)], thing)

    def test_a_normal_list_and_a_size_or_a_place(self):
        for function in (gaps, has_place):
            for thing in no_normals():
                for number in (0, 5, TOP):
                    self.wrong(0, function, thing, number)
                self.wrong(0, function, thing, -1)
                self.wrong(0, function, thing, thing)
            for number in no_places():
                for spans in NORMALS:
                    self.wrong(1, function, spans, number)
                self.wrong(0, function, [(0, 0)], number)

    def test_one_normal_list(self):
        for thing in no_normals():
            self.wrong(0, many_in, thing)

    def test_arguments_in_each_other_s_place(self):
        self.wrong(0, gaps, 5, [(0, 1)])
        self.wrong(0, has_place, 5, [(0, 1)])
        self.wrong(1, gaps, [(0, 1)], [(0, 1)])
        self.wrong(1, has_place, [(0, 1)], (0, 1))

    def test_what_is_refused_changes_nothing(self):
        for function in (either, both, less):
            spans, unsteady = [(0, 1), (3, 4)], [(5, 6), (0, 1)]
            self.wrong(1, function, spans, unsteady)
            self.wrong(0, function, unsteady, spans)
            self.assertEqual((spans, unsteady), ([(0, 1), (3, 4)], [(5, 6), (0, 1)]))
        stretches = [(5, 6), (0, 1), (3, 2)]
        self.wrong(0, spans_of, stretches)
        self.assertEqual(stretches, [(5, 6), (0, 1), (3, 2)])


if __name__ == "__main__":
    unittest.main()
