"""Point 45: rows that are right where they stand, and rows that aren't, for each word of that point."""

import unittest

from lentloft.errors import NoParcel
from lentloft.loft import Loft
from lentloft.parcels import lay
from tests.cases import TOP, Case, loft_state, loft_with
from tests.samples import Stranger, no_contents, no_names, no_places, no_writings

GOOD = [
    ("gone", "c"), ("file", "a", 10), ("lend", 0, 2, "b", 1), ("write", 2, [5]), ("again", 3, 3, "a", 0),
    ("file", "b", 6), ("lend", 0, 4, "b", 0), ("again", 4, 1, "a", 9), ("file", "d", 0),
]


def base_loft():
    """A state s of files a (of size 3), b (4, holes within) and c (1)."""
    loft = loft_with(20, a=[1, 2, 3], b=[4, None, None, 5], c=[6])
    loft.freeze("s")
    loft.drop("b")
    loft.write("a", 0, [7])
    return loft


class RowCase(Case):
    def setUp(self):
        self.loft = base_loft()
        self.before = loft_state(self.loft)

    def right(self, *rows, base="s"):
        loft = base_loft()
        self.assertIsNone(lay(loft, base, list(rows)))
        self.rule_of_holding(loft)
        return loft

    def not_right(self, at, *rows, base="s"):
        """The row at this place isn't right, also with right rows and wrong ones behind it."""
        for more in ([], [None], [("file", "zz", 1)], [("gone",)]):
            self.refused(NoParcel, [at], lay, self.loft, base, list(rows) + more)
        self.assertEqual(loft_state(self.loft), self.before)


class TestKinds(RowCase):
    def test_right_rows(self):
        loft = self.right(*GOOD)
        self.assertEqual(loft.names(""), ["a", "b", "d"])
        self.assertEqual(loft.read("", "a", 0, 60), [0, 0, 5, 0, 0, 5, 0, 0, 0, 0])

    def test_no_tuple(self):
        things = [list(row) for row in GOOD] + [None, True, 0, 1, "gone", "gone c", b"gone", {}, {"gone": "c"},
                                                {"gone"}, [],
                                                Stranger(), Stranger, range(2), 10 ** 5000]
        for at in (0, 1, 4, len(GOOD)):
            for thing in things:
                self.not_right(at, *GOOD[:at], thing)

    def test_a_word_too_few_or_too_many(self):
        for at, row in enumerate(GOOD):
            for many in range(len(row)):
                self.not_right(at, *GOOD[:at], row[:many])
            for more in (None, 0, "a", [1], 1):
                self.not_right(at, *GOOD[:at], (*row, more))

    def test_a_kind_that_is_none(self):
        words = ["", "Gone", "gones", "hole", "make", "lay", "gone ", "files", "writes", None, True, 0, b"gone",
                 ("gone",),
                 ["gone"], {}, Stranger()]
        for at, row in enumerate(GOOD):
            for word in words:
                self.not_right(at, *GOOD[:at], (word, *row[1:]))
        # A word of another kind with the things of this one.
        for at, row in enumerate(GOOD):
            for word in ("gone", "file", "lend", "write", "again"):
                if {word, row[0]} not in ({"lend", "again"}, {word}):
                    self.not_right(at, *GOOD[:at], (word, *row[1:]))

    def test_things_that_are_not_of_their_kind(self):
        for thing in no_names():
            self.not_right(0, ("gone", thing))
            self.not_right(1, GOOD[0], ("file", thing, 3))
            self.not_right(2, *GOOD[:2], ("lend", 0, 2, thing, 0))
            self.not_right(2, *GOOD[:2], ("again", 2, 1, thing, 0))
        for thing in no_places():
            self.not_right(1, GOOD[0], ("file", "a", thing))
            self.not_right(2, *GOOD[:2], ("lend", thing, 1, "b", 0))
            self.not_right(2, *GOOD[:2], ("lend", 0, 1, "b", thing))
            self.not_right(2, *GOOD[:2], ("write", thing, [1]))
            self.not_right(2, *GOOD[:2], ("again", thing, 1, "a", 0))
            self.not_right(2, *GOOD[:2], ("again", 5, 1, "a", thing))
        for thing in no_places() + [0]:
            self.not_right(2, *GOOD[:2], ("lend", 0, thing, "b", 0))
            self.not_right(2, *GOOD[:2], ("again", 5, thing, "a", 0))

    def test_contents_that_are_none(self):
        rows = [("file", "a", 99), ("file", "b", 99), ("file", "c", 99)]
        for thing in no_writings():
            self.not_right(3, *rows, ("write", 0, thing))
        for content in no_contents():
            self.not_right(3, *rows, ("write", 0, [content]))
        self.right(*rows, ("write", 0, [0]))
        self.assertEqual(lay(Loft(24), None, [("file", "a", 24), ("write", 0, [10 ** 9] * 24)]), None)


class TestGone(RowCase):
    def test_behind_a_file_row(self):
        self.not_right(1, ("file", "a", 1), ("gone", "c"))
        self.not_right(2, ("gone", "a"), ("file", "b", 1), ("gone", "c"))
        self.not_right(3, ("gone", "a"), ("file", "b", 1), ("write", 0, [1]), ("gone", "c"))

    def test_twice(self):
        self.not_right(1, ("gone", "a"), ("gone", "a"))
        self.not_right(2, ("gone", "a"), ("gone", "b"), ("gone", "b"))
        self.not_right(2, ("gone", "a"), ("gone", "b"), ("gone", "a"))

    def test_out_of_order(self):
        self.not_right(1, ("gone", "b"), ("gone", "a"))
        self.not_right(2, ("gone", "a"), ("gone", "c"), ("gone", "b"))
        self.right(("gone", "a"), ("gone", "b"), ("gone", "c"))
        self.right(("gone", "a"), ("gone", "c"), ("file", "b", 0))

    def test_of_no_file_of_the_base(self):
        for name in ("d", "aa", "s", "zzzzzzzz"):
            self.not_right(0, ("gone", name))
            self.not_right(1, ("gone", "a"), ("gone", name))
        for name in "abc":
            self.not_right(0, ("gone", name), base=None)

    def test_a_living_file_is_none_of_the_base(self):
        self.loft.make("d")
        self.before = loft_state(self.loft)
        self.not_right(0, ("gone", "d"))


class TestFiles(RowCase):
    def test_a_seventh(self):
        rows = [("file", name, 1) for name in "abcdef"]
        self.right(*rows)
        self.not_right(6, *rows, ("file", "g", 1))
        self.not_right(7, *rows, ("write", 0, [1]), ("file", "g", 1))

    def test_names_that_do_not_rise(self):
        self.not_right(1, ("file", "b", 1), ("file", "a", 1))
        self.not_right(1, ("file", "a", 1), ("file", "a", 1))
        self.not_right(2, ("file", "a", 1), ("file", "c", 1), ("file", "b", 1))
        self.not_right(1, ("file", "ab", 1), ("file", "aa", 1))
        self.not_right(1, ("file", "ab", 1), ("file", "a", 1))
        self.right(("file", "a", 1), ("file", "aa", 1), ("file", "ab", 1), ("file", "b", 1), ("file", "c", 1))

    def test_one_told_gone(self):
        self.not_right(1, ("gone", "a"), ("file", "a", 1))
        self.not_right(3, ("gone", "a"), ("gone", "c"), ("file", "b", 1), ("file", "c", 1))

    def test_sizes(self):
        self.right(("file", "a", 0), ("file", "b", TOP), ("file", "c", 1))


class TestPlaces(RowCase):
    ROWS = (("lend", 0, 1, "a", 0), ("write", 0, [1]), ("again", 0, 1, "a", 0))
    FILES = (("file", "a", 10), ("file", "b", 10), ("file", "c", 10))

    def each(self, place, many):
        """A row of each kind for so many places from a place on, out of holes of file a, or of its base."""
        return (("write", place, [1] * many), ("lend", place, many, "b", 0), ("again", place, many, "a", 0))

    def test_ahead_of_all_file_rows(self):
        for row in self.ROWS:
            self.not_right(0, row)
            self.not_right(0, row, *self.FILES)
            self.not_right(1, ("gone", "b"), row)

    def test_ahead_of_the_end_of_the_row_ahead(self):
        for first in self.each(2, 3):
            for place in (0, 1, 2, 3, 4):
                for row in self.each(place, 1):
                    self.not_right(4, *self.FILES, first, row)
            for place in (5, 6, 9):
                for row in self.each(place, 1):
                    self.right(*self.FILES, first, row)

    def test_of_two_files_each_begins_anew(self):
        rows = (("file", "a", 10), ("write", 8, [1]), ("file", "b", 10), ("write", 0, [1]), ("file", "c", 1))
        self.right(*rows)
        self.not_right(5, *rows, ("write", 1, [1]))
        self.not_right(4, *rows[:4], ("write", 0, [1]))

    def test_beyond_the_size(self):
        for row in self.each(10, 1) + self.each(9, 2) + self.each(8, 3) + self.each(TOP, 1):
            self.not_right(3, *self.FILES, row)
        for row in self.each(9, 1) + self.each(8, 2):
            self.right(*self.FILES, row)
        for row in self.each(0, 1):
            self.not_right(3, ("file", "a", 9), ("file", "b", 9), ("file", "c", 0), row)

    def test_the_size_of_its_own_file(self):
        self.not_right(2, ("file", "a", 10), ("file", "b", 1), ("write", 1, [1]))
        self.not_right(1, ("file", "a", 1), ("write", 0, [1, 2]), ("file", "b", 10))


class TestSources(RowCase):
    FILES = (("file", "a", 10), ("file", "b", 20), ("file", "c", 30))

    def test_a_lend_source_that_is_none(self):
        for name in ("d", "aa", "s"):
            self.not_right(3, *self.FILES, ("lend", 0, 1, name, 0))
        # A file of the parcel that the base doesn't have.
        self.not_right(4, *self.FILES, ("file", "d", 9), ("lend", 0, 1, "d", 0))
        self.not_right(1, ("file", "a", 9), ("lend", 0, 1, "a", 0), base=None)

    def test_a_lend_source_that_is_gone_is_one_of_the_base(self):
        self.right(("gone", "b"), ("file", "a", 9), ("lend", 0, 4, "b", 0), ("file", "c", 9))

    def test_a_lend_source_that_ends_beyond_its_size(self):
        for name, size in (("a", 3), ("b", 4), ("c", 1)):
            self.right(*self.FILES, ("lend", 0, size, name, 0))
            self.right(*self.FILES, ("lend", 0, 1, name, size - 1))
            self.not_right(3, *self.FILES, ("lend", 0, size + 1, name, 0))
            self.not_right(3, *self.FILES, ("lend", 0, 1, name, size))
            self.not_right(3, *self.FILES, ("lend", 0, 2, name, size - 1))
            self.not_right(3, *self.FILES, ("lend", 0, 1, name, TOP))

    def test_the_size_of_the_frozen_file_not_of_the_living_one(self):
        self.loft.resize("a", 50)
        self.before = loft_state(self.loft)
        self.not_right(3, *self.FILES, ("lend", 0, 4, "a", 0))

    def test_an_again_source_that_is_none(self):
        self.not_right(3, *self.FILES, ("again", 5, 1, "d", 0))
        # One of the base that has no file row, and one whose file row comes later.
        self.not_right(3, ("gone", "b"), ("file", "a", 9), ("file", "c", 9), ("again", 5, 1, "b", 0))
        self.not_right(1, ("file", "a", 9), ("again", 5, 1, "b", 0), ("file", "b", 9))

    def test_an_again_source_that_ends_beyond_its_size(self):
        for name, size in (("a", 10), ("b", 20)):
            self.right(*self.FILES, ("again", 0, size, name, 0))
            self.right(*self.FILES, ("again", 0, 1, name, size - 1))
            self.not_right(3, *self.FILES, ("again", 0, size + 1, name, 0))
            self.not_right(3, *self.FILES, ("again", 0, 1, name, size))
            self.not_right(3, *self.FILES, ("again", 0, 2, name, size - 1))

    def test_an_again_row_out_of_its_own_file(self):
        for place, many, there, good in (
            (5, 5, 0, True), (5, 1, 4, True), (5, 2, 3, True), (1, 1, 0, True), (29, 1, 28, True), (15, 15, 0, True),
            (5, 6, 0, False), (5, 2, 4, False), (5, 1, 5, False), (5, 1, 6, False), (0, 1, 0, False), (5, 1, 29, False),
            (0, 1, 1, False), (14, 15, 0, False),
        ):
            row = ("again", place, many, "c", there)
            if good:
                self.right(*self.FILES, row)
            else:
                self.not_right(3, *self.FILES, row)

    def test_out_of_another_file_the_place_says_nothing(self):
        self.right(*self.FILES, ("again", 0, 10, "a", 0))
        self.right(*self.FILES, ("again", 3, 2, "b", 18))


class TestAll(RowCase):
    def test_each_file_of_the_base_is_gone_or_told(self):
        for rows in ([], [("gone", "a")], [("gone", "a"), ("gone", "b")], [("gone", "a"), ("file", "b", 1)],
                     [("file", "a", 1), ("file", "b", 1), ("file", "d", 1)],
                     [("gone", "b"), ("gone", "c"), ("file", "d", 1)]):
            self.refused(NoParcel, [len(rows)], lay, self.loft, "s", rows)
        self.assertEqual(loft_state(self.loft), self.before)
        self.right(("gone", "a"), ("gone", "b"), ("gone", "c"))
        self.right(("gone", "a"), ("gone", "b"), ("file", "c", 1))
        self.right(base=None)

    def test_the_first_of_several(self):
        self.not_right(0, ("gone", "d"), ("gone", "a"), ("gone", "a"))
        self.not_right(1, ("gone", "a"), ("file", "a", 1), ("write", 5, [1]))


if __name__ == "__main__":
    unittest.main()
