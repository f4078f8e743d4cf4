"""Points 43, 44, 47: parcels as they are told."""

import unittest

from lentloft.errors import NoLabel
from lentloft.loft import Loft
from lentloft.merging import merge
from lentloft.parcels import contents_in, parcel
from tests.cases import TOP, Case, loft_state, loft_with
from tests.samples import no_names, no_objects


class TestTold(Case):
    def told(self, loft, base, label, *rows):
        before = loft_state(loft)
        told = parcel(loft, base, label)
        self.assertEqual(told, list(rows))
        self.assertIs(type(told), list)
        self.assertEqual({type(row) for row in told} | {tuple}, {tuple})
        self.assertEqual(loft_state(loft), before)
        self.assertEqual(contents_in(told), sum(len(row[2]) for row in rows if row[0] == "write"))

    def test_of_no_base(self):
        loft = loft_with(9, b=[1, None, 2], a=[], c=[None, None])
        loft.freeze("s")
        self.told(
            loft, None, "s", ("file", "a", 0), ("file", "b", 3), ("write", 0, [1]), ("write", 2, [2]), ("file", "c", 2),
        )

    def test_of_states_without_files(self):
        loft = Loft(9)
        loft.freeze("s")
        loft.freeze("t")
        self.told(loft, None, "s")
        self.told(loft, "s", "t")
        self.told(loft, "s", "s")

    def test_of_a_state_and_itself(self):
        loft = loft_with(9, b=[1, 2, None, 3], a=[4], c=[None])
        loft.lend("", "b", 0, 2, "a", 3)
        loft.freeze("s")
        # Each place out of the same place of the file of the same name, wherever else its grain is.
        self.told(
            loft, "s", "s",
            ("file", "a", 5), ("lend", 0, 1, "a", 0), ("lend", 3, 2, "a", 3),
            ("file", "b", 4), ("lend", 0, 2, "b", 0), ("lend", 3, 1, "b", 3),
            ("file", "c", 1),
        )

    def test_files_that_are_gone_new_alike_longer_shorter(self):
        loft = loft_with(20, a=[1, 2], b=[3, 4], c=[5], g=[6], f=[7])
        loft.freeze("s")
        for name in "gf":
            loft.drop(name)
        loft.make("e")
        loft.write("e", 1, [8, 9])
        loft.write("a", 2, [8])
        loft.resize("b", 1)
        loft.freeze("t")
        self.told(
            loft, "s", "t",
            ("gone", "f"), ("gone", "g"),
            ("file", "a", 3), ("lend", 0, 2, "a", 0), ("write", 2, [8]),
            ("file", "b", 1), ("lend", 0, 1, "b", 0),
            ("file", "c", 1), ("lend", 0, 1, "c", 0),
            ("file", "e", 3), ("write", 1, [8, 9]),
        )
        self.told(
            loft, "t", "s",
            ("gone", "e"),
            ("file", "a", 2), ("lend", 0, 2, "a", 0),
            ("file", "b", 2), ("lend", 0, 1, "b", 0), ("write", 1, [4]),
            ("file", "c", 1), ("lend", 0, 1, "c", 0),
            ("file", "f", 1), ("write", 0, [7]),
            ("file", "g", 1), ("write", 0, [6]),
        )

    def test_a_file_of_holes_and_of_the_greatest_size(self):
        loft = loft_with(2, a=[5])
        loft.freeze("s")
        loft.resize("a", TOP)
        loft.lend("", "a", 0, 1, "a", TOP - 1)
        loft.write("a", TOP - 2, [6])
        loft.freeze("t")
        self.told(
            loft, "s", "t", ("file", "a", TOP), ("lend", 0, 1, "a", 0), ("write", TOP - 2, [6]),
            ("lend", TOP - 1, 1, "a", 0),
        )
        self.told(loft, "t", "s", ("file", "a", 1), ("lend", 0, 1, "a", 0))


class TestSources(Case):
    def rows(self, loft, base="s", label="t"):
        return parcel(loft, base, label)

    def test_the_same_place_of_the_same_name_ahead_of_the_first(self):
        loft = loft_with(9, a=[1], b=[None, 2])
        loft.lend("", "a", 0, 1, "b", 3)
        loft.freeze("s")
        self.assertEqual(self.rows(loft, "s", "s")[-2:], [("lend", 1, 1, "b", 1), ("lend", 3, 1, "b", 3)])
        # At another place of it, the first place of the base is the source.
        loft.lend("", "b", 3, 1, "b", 4)
        loft.freeze("t")
        self.assertEqual(
            self.rows(loft)[-3:], [("lend", 1, 1, "b", 1), ("lend", 3, 1, "b", 3), ("lend", 4, 1, "a", 0)],
        )

    def test_the_first_by_sorted_names_and_then_by_rising_places(self):
        loft = loft_with(9, c=[1], b=[])
        for name, place in (("b", 7), ("b", 4), ("b", 9)):
            loft.lend("", "c", 0, 1, name, place)
        loft.freeze("s")
        loft.make("a")
        loft.lend("", "c", 0, 1, "a", 2)
        loft.freeze("t")
        self.assertEqual(self.rows(loft)[:2], [("file", "a", 3), ("lend", 2, 1, "b", 4)])
        loft.drop("b")
        loft.freeze("u")
        self.assertEqual(self.rows(loft, "s", "u")[:3], [("gone", "b"), ("file", "a", 3), ("lend", 2, 1, "b", 4)])

    def test_a_source_in_a_file_that_is_gone(self):
        loft = loft_with(9, a=[1, 2], b=[])
        loft.freeze("s")
        loft.lend("", "a", 0, 2, "b", 5)
        loft.drop("a")
        loft.freeze("t")
        self.assertEqual(self.rows(loft), [("gone", "a"), ("file", "b", 7), ("lend", 5, 2, "a", 0)])

    def test_the_same_place_in_a_file_of_another_name_is_nothing_better(self):
        loft = loft_with(9, a=[1], b=[2])
        loft.lend("", "b", 0, 1, "a", 3)
        loft.freeze("s")
        loft.twin("", "b", "c")
        loft.freeze("t")
        self.assertEqual(self.rows(loft)[-2:], [("file", "c", 1), ("lend", 0, 1, "a", 3)])

    def test_contents_are_written_where_the_grain_stands_for_the_first_time(self):
        loft = loft_with(9, b=[1, 2], a=[])
        loft.lend("", "b", 0, 2, "b", 2)
        loft.lend("", "b", 0, 1, "a", 5)
        loft.freeze("t")
        # By the parcel's order a comes first.
        self.assertEqual(self.rows(loft, None), [
            ("file", "a", 6), ("write", 5, [1]),
            ("file", "b", 4), ("again", 0, 1, "a", 5), ("write", 1, [2]), ("again", 2, 1, "a", 5),
            ("again", 3, 1, "b", 1),
        ])

    def test_lent_again_in_the_same_file_and_in_another_one(self):
        loft = loft_with(9, a=[1, 2, 3], b=[])
        loft.freeze("s")
        loft.write("a", 0, [4, 5, 6])
        loft.lend("", "a", 0, 3, "a", 3)
        loft.lend("", "a", 3, 3, "b", 1)
        loft.freeze("t")
        self.assertEqual(self.rows(loft), [
            ("file", "a", 6), ("write", 0, [4, 5, 6]), ("again", 3, 3, "a", 0), ("file", "b", 4),
            ("again", 1, 3, "a", 0),
        ])

    def test_likes_are_grains_of_their_own(self):
        loft = loft_with(9, a=[7])
        loft.freeze("s")
        loft.write("a", 1, [7, 7])
        loft.freeze("t")
        self.assertEqual(self.rows(loft), [("file", "a", 3), ("lend", 0, 1, "a", 0), ("write", 1, [7, 7])])
        merge(loft, 120)
        self.assertEqual(self.rows(loft), [
            ("file", "a", 3), ("lend", 0, 1, "a", 0), ("lend", 1, 1, "a", 0), ("lend", 2, 1, "a", 0),
        ])


class TestRows(Case):
    def rows(self, loft):
        loft.freeze("t")
        return parcel(loft, "s", "t")

    def test_at_most_24_contents(self):
        for many, parts in ((1, [1]), (23, [23]), (24, [24]), (25, [24, 1]), (47, [24, 23]), (48, [24, 24]),
                            (60, [24, 24, 12])):
            loft = loft_with(120, a=[None, *range(many)])
            loft.freeze("t")
            rows, at = [("file", "a", many + 1)], 1
            for part in parts:
                rows.append(("write", at, list(range(at - 1, at - 1 + part))))
                at += part
            self.assertEqual(parcel(loft, None, "t"), rows)
            self.assertEqual(contents_in(rows), many)

    def test_24_anew_behind_another_row(self):
        loft = loft_with(120, a=[9])
        loft.freeze("s")
        loft.write("a", 1, list(range(24)))
        loft.write("a", 25, [99])
        loft.lend("", "a", 0, 1, "a", 12)
        self.assertEqual(self.rows(loft), [
            ("file", "a", 26), ("lend", 0, 1, "a", 0), ("write", 1, list(range(11))), ("lend", 12, 1, "a", 0),
            ("write", 13, [*range(12, 24), 99]),
        ])

    def test_lending_goes_on_beyond_24(self):
        loft = loft_with(120, a=[*range(60)])
        loft.freeze("s")
        loft.twin("", "a", "b")
        self.assertEqual(self.rows(loft), [
            ("file", "a", 60), ("lend", 0, 60, "a", 0), ("file", "b", 60), ("lend", 0, 60, "a", 0),
        ])
        self.assertEqual(parcel(loft, None, "t")[-2:], [("file", "b", 60), ("again", 0, 60, "a", 0)])

    def test_holes_part_rows(self):
        loft = loft_with(20, a=[1, 2, None, 3, 4])
        loft.freeze("s")
        loft.twin("", "a", "b")
        loft.write("b", 8, [5, 6])
        loft.write("b", 11, [7])
        self.assertEqual(self.rows(loft), [
            ("file", "a", 5), ("lend", 0, 2, "a", 0), ("lend", 3, 2, "a", 3),
            ("file", "b", 12), ("lend", 0, 2, "a", 0), ("lend", 3, 2, "a", 3), ("write", 8, [5, 6]), ("write", 11, [7]),
        ])
        self.assertEqual(parcel(loft, None, "t")[-5:], [
            ("file", "b", 12), ("again", 0, 2, "a", 0), ("again", 3, 2, "a", 3), ("write", 8, [5, 6]),
            ("write", 11, [7]),
        ])

    def test_sources_that_do_not_go_on_part_rows(self):
        loft = loft_with(20, a=[1, 2, 3, 4], b=[5, 6])
        loft.freeze("s")
        loft.make("c")
        # Backwards, a step too far, the same place twice, out of another file.
        for place, (name, there) in enumerate([("a", 1), ("a", 0), ("a", 2), ("a", 3), ("a", 3), ("b", 0), ("b", 1),
                                               ("a", 2)]):
            loft.lend("", name, there, 1, "c", place)
        self.assertEqual(self.rows(loft)[-7:], [
            ("file", "c", 8), ("lend", 0, 1, "a", 1), ("lend", 1, 1, "a", 0), ("lend", 2, 2, "a", 2),
            ("lend", 4, 1, "a", 3),
            ("lend", 5, 2, "b", 0), ("lend", 7, 1, "a", 2),
        ])

    def test_places_that_go_on_in_another_file_part_rows(self):
        loft = loft_with(20, a=[1], b=[None, 2])
        loft.freeze("s")
        loft.make("c")
        loft.lend("", "a", 0, 1, "c", 0)
        loft.lend("", "b", 1, 1, "c", 1)
        self.assertEqual(self.rows(loft)[-2:], [("lend", 0, 1, "a", 0), ("lend", 1, 1, "b", 1)])
        self.assertEqual(parcel(loft, None, "t")[-2:], [("again", 0, 1, "a", 0), ("again", 1, 1, "b", 1)])

    def test_lend_and_again_are_parted(self):
        loft = loft_with(20, a=[1])
        loft.freeze("s")
        loft.write("a", 1, [2])
        loft.make("b")
        loft.lend("", "a", 0, 2, "b", 0)
        self.assertEqual(self.rows(loft)[-2:], [("lend", 0, 1, "a", 0), ("again", 1, 1, "a", 1)])

    def test_a_write_is_parted_by_what_is_lent_again(self):
        loft = loft_with(20, a=[1, 2, 3])
        loft.lend("", "a", 0, 1, "a", 1)
        loft.freeze("t")
        self.assertEqual(parcel(loft, None, "t"), [
            ("file", "a", 3), ("write", 0, [1]), ("again", 1, 1, "a", 0), ("write", 2, [3]),
        ])


class TestRefused(Case):
    def test_no_label_of_the_base_first(self):
        loft = loft_with(3, s=[1])
        loft.freeze("t")
        for base, label, told in (("x", "y", "x"), ("x", "t", "x"), ("t", "y", "y"), (None, "y", "y"), ("s", "t", "s")):
            self.refused(NoLabel, [told], parcel, loft, base, label)

    def test_wrong(self):
        loft = loft_with(3, s=[1])
        loft.freeze("t")
        no_bases = [thing for thing in no_names() if thing is not None]
        for base, label in (("t", "t"), (None, "t"), ("x", "y")):
            self.wrong_in_each_way(parcel, [loft, base, label], [no_objects() + [Loft], no_bases, no_names()])
        self.wrong(1, parcel, loft, "", "t")
        self.wrong(2, parcel, loft, "t", "")
        self.wrong(2, parcel, loft, "t", None)


class TestContentsIn(Case):
    def test_of_rows(self):
        self.assertEqual(contents_in([]), 0)
        self.assertEqual(contents_in([("gone", "a"), ("file", "b", 9), ("lend", 0, 5, "a", 2)]), 0)
        rows = [("file", "a", 99), ("write", 0, [5]), ("write", 7, [1] * 24), ("again", 50, 9, "a", 0),
                ("file", "b", 2),
                ("write", 0, [0, 0])]
        self.assertEqual(contents_in(rows), 27)
        self.assertIs(type(contents_in(rows)), int)


class TestOwn(Case):
    def test_lists_within_are_the_askers_own(self):
        loft = loft_with(9, a=[1, 2, None, 3])
        loft.freeze("s")
        told = parcel(loft, None, "s")
        told[1][2].append(7)
        told[1][2][0] = 8
        told.reverse()
        self.assertEqual(parcel(loft, None, "s"), [("file", "a", 4), ("write", 0, [1, 2]), ("write", 3, [3])])
        self.assertEqual(loft.read("s", "a", 0, 9), [1, 2, 0, 3])


if __name__ == "__main__":
    unittest.main()
