"""Points 9, 46: parcels that are laid."""

import unittest

from lentloft.errors import NoLabel, NoParcel, NoRoom, TooFull
from lentloft.loft import Loft
from lentloft.merging import part
from lentloft.owing import holders
from lentloft.parcels import lay, parcel
from tests.cases import TOP, Case, loft_file_state, loft_state, loft_with
from tests.samples import no_lists, no_names, no_objects


def two_states(room=120):
    """A loft with states s and t that share in all ways: within s, within t, between them."""
    loft = loft_with(room, a=[1, 2, 3], b=[4], c=[None, 5])
    loft.lend("", "a", 0, 2, "b", 4)
    loft.freeze("s")
    loft.drop("c")
    loft.write("a", 1, [6, 7])
    loft.lend("", "a", 1, 2, "a", 4)
    loft.make("d")
    loft.lend("", "a", 0, 6, "d", 1)
    loft.lend("s", "c", 1, 1, "d", 9)
    loft.resize("b", 20)
    loft.freeze("t")
    return loft


def reads(loft, where):
    return {name: (loft.size(where, name), loft.held(where, name), loft.read(where, name, 0, 60))
            for name in loft.names(where)}


def grains(loft, where):
    """The grain of each place that is no hole."""
    return {(name, place + k): grain + k for name in loft.names(where)
            for place, many, grain in loft.pieces(where, name) for k in range(many)}


def sharing(loft, wheres):
    """All places of some states beside the first of them that has the same grain."""
    places = [((at, *where), grain) for at, each in enumerate(wheres) for where, grain in grains(loft, each).items()]
    first = {}
    for where, grain in places:
        first.setdefault(grain, where)
    return {where: first[grain] for where, grain in places}


class TestLaid(Case):
    def test_on_the_very_state(self):
        loft = two_states()
        for base, label in (("s", "t"), ("t", "s"), ("s", "s"), (None, "s"), (None, "t")):
            each = loft.copied()
            frozen = {where: [loft_file_state(each, where, name) for name in each.names(where)] for where in "st"}
            self.assertIsNone(lay(each, base, parcel(each, base, label)))
            self.assertEqual(reads(each, ""), reads(each, label))
            # The base's grains where the state has the base's, and places share a grain just where they do there.
            if base is not None:
                held = set(grains(each, base).values())
                for place, grain in grains(each, label).items():
                    self.assertEqual(grains(each, "")[place] in held, grain in held)
                    if grain in held:
                        self.assertEqual(grains(each, "")[place], grain)
                self.assertEqual(sharing(each, ["", base]), sharing(each, [label, base]))
            self.assertEqual(sharing(each, [""]), sharing(each, [label]))
            for where in "st":
                self.assertEqual([loft_file_state(each, where, name) for name in each.names(where)], frozen[where])
            self.rule_of_holding(each)

    def test_in_another_loft_that_reads_like_it(self):
        loft = two_states()
        rows = parcel(loft, "s", "t")
        other = loft_with(120, z=[9], a=[1, 2, 3], b=[4, 0, 0, 0, 1, 2], c=[0, 5])
        other.drop("z")
        # Holes there read as contents of 0 do, and nothing is shared.
        other.freeze("base")
        self.assertIsNone(lay(other, "base", rows))
        told, meant = reads(other, ""), reads(loft, "t")
        self.assertEqual({name: (told[name][0], told[name][2]) for name in told},
                         {name: (meant[name][0], meant[name][2]) for name in meant})
        self.rule_of_holding(other)

    def test_on_a_state_that_shares_in_the_same_way(self):
        loft = two_states()
        rows = parcel(loft, "s", "t")
        other = loft_with(120, z=[9, 9, 9], c=[None, 5], b=[4], a=[1, 2, 3])
        other.lend("", "a", 0, 2, "b", 4)
        other.drop("z")
        other.freeze("u")
        lay(other, "u", rows)
        self.assertEqual(reads(other, ""), reads(loft, "t"))
        self.assertEqual(sharing(other, ["", "u"]), sharing(loft, ["t", "s"]))

    def test_on_a_state_that_was_parted(self):
        loft = two_states()
        rows = parcel(loft, "s", "t")
        loft.back("s")
        for name in "abc":
            part(loft, name)
        loft.freeze("u")
        lay(loft, "u", rows)
        self.assertEqual(reads(loft, ""), reads(loft, "t"))

    def test_a_chain_of_parcels(self):
        loft = Loft(120)
        labels = [None]
        deeds = (
            [("make", "a"), ("write", "a", 0, [1, 2, 3])], [("twin", "", "a", "b"), ("write", "b", 1, [9])],
            [("drop", "a"), ("lend", "", "b", 0, 3, "b", 5)], [("make", "c"), ("lend", "s", "a", 1, 2, "c", 2)],
        )
        for label, some in zip("stuv", deeds):
            for word, *things in some:
                getattr(loft, word)(*things)
            loft.freeze(label)
            labels.append(label)
        parcels = [parcel(loft, base, label) for base, label in zip(labels, labels[1:])]
        other = Loft(120)
        for base, label, rows in zip(labels, labels[1:], parcels):
            lay(other, base, rows)
            other.freeze(label)
            self.assertEqual(reads(other, label), reads(loft, label))
            self.rule_of_holding(other)
        # Just what the rows bear was laid, and sharing within each state is as it was.
        self.assertEqual(len(other.kept()), sum(len(row[2]) for rows in parcels for row in rows if row[0] == "write"))
        for label in "stuv":
            self.assertEqual(sharing(other, [label]), sharing(loft, [label]))

    def test_living_files_go_and_frozen_states_stay(self):
        loft = loft_with(9, a=[1, 2], b=[3])
        loft.freeze("s")
        loft.write("a", 0, [7])
        loft.make("x")
        loft.write("x", 5, [8])
        before = [loft_file_state(loft, "s", name) for name in "ab"]
        lay(loft, "s", [("gone", "b"), ("file", "a", 9), ("write", 3, [5])])
        self.assertEqual((loft.names(""), loft.labels(), loft.names("s")), (["a"], ["s"], ["a", "b"]))
        self.assertEqual([loft_file_state(loft, "s", name) for name in "ab"], before)
        # 3 and 4 were held by living files alone: their numbers are free when the rows are done.
        self.assertEqual((loft.read("", "a", 0, 9), loft.pieces("", "a")), ([0, 0, 0, 5, 0, 0, 0, 0, 0], [(3, 1, 3)]))
        self.assertEqual(loft.kept(), [0, 1, 2, 3])

    def test_no_rows(self):
        loft = loft_with(2, a=[1])
        self.assertIsNone(lay(loft, None, []))
        self.assertEqual((loft.names(""), loft.kept()), ([], []))
        loft.freeze("s")
        loft.make("b")
        lay(loft, "s", [])
        self.assertEqual((loft.names(""), loft.labels()), ([], ["s"]))

    def test_holes_are_lent_as_holes(self):
        loft = loft_with(9, a=[1, None, 2, None, 3])
        loft.freeze("s")
        lay(loft, "s", [
            ("file", "a", TOP), ("lend", 1, 4, "a", 1), ("again", 7, 6, "a", 0), ("again", TOP - 3, 3, "a", 2),
            ("file", "b", 5),
            ("again", 1, 3, "a", 2), ("lend", 4, 1, "a", 3),
        ])
        self.assertEqual((loft.size("", "a"), loft.size("", "b")), (TOP, 5))
        self.assertEqual(loft.read("", "a", 0, 14), [0, 0, 2, 0, 3, 0, 0, 0, 0, 2, 0, 3, 0, 0])
        self.assertEqual(loft.held("", "a"), [(2, 3), (4, 5), (9, 10), (11, 12), (TOP - 3, TOP - 2), (TOP - 1, TOP)])
        self.assertEqual((loft.read("", "b", 0, 9), loft.held("", "b")), ([0, 2, 0, 3, 0], [(1, 2), (3, 4)]))
        self.assertEqual(loft.kept(), [0, 1, 2])

    def test_written_contents_are_laid_in_the_order_of_rows(self):
        loft = loft_with(9, a=[1])
        lay(loft, None, [("file", "a", 9), ("write", 4, [5, 6]), ("write", 7, [7]), ("file", "b", 2),
                         ("write", 0, [8])])
        self.assertEqual((loft.pieces("", "a"), loft.pieces("", "b")), ([(4, 2, 0), (7, 1, 2)], [(0, 1, 3)]))

    def test_six_files_and_600_rows(self):
        loft = Loft(120)
        lay(loft, None, [("file", name, 1) for name in "abcdef"])
        self.assertEqual(loft.names(""), list("abcdef"))
        loft.freeze("s")
        # Holes of a file are lent again and again: rows that tell nothing are rows.
        rows = [("file", name, 700) for name in "abcdef"] + [("lend", place, 1, "a", 0) for place in range(594)]
        self.assertEqual(len(rows), 600)
        lay(loft, "s", rows)
        self.assertEqual((loft.size("", "f"), loft.held("", "f")), (700, []))
        self.wrong(2, lay, loft, "s", rows + [("lend", 594, 1, "a", 0)])

    def test_with_just_enough_room(self):
        loft = loft_with(4, a=[1, 2])
        loft.freeze("s")
        loft.write("a", 0, [3, 4])
        lay(loft, "s", [("file", "a", 9), ("lend", 0, 2, "a", 0), ("write", 2, [5, 6])])
        self.assertEqual((loft.read("", "a", 0, 9), loft.left()), ([1, 2, 5, 6, 0, 0, 0, 0, 0], 0))

    def test_rows_that_are_handed_in_stay(self):
        loft = two_states()
        rows = parcel(loft, "s", "t")
        kept = [tuple(list(each) if isinstance(each, list) else each for each in row) for row in rows]
        lay(loft, "s", rows)
        self.assertEqual(rows, kept)
        before = loft_state(loft)
        for row in rows:
            if row[0] == "write":
                row[2].append(5)
                row[2][0] = 99
        rows.clear()
        self.assertEqual(loft_state(loft), before)


class TestRefused(Case):
    def refused_whole(self, loft, kind, fields, base, rows):
        before = loft_state(loft)
        self.refused(kind, fields, lay, loft, base, rows)
        self.assertEqual(loft_state(loft), before)

    def test_in_the_told_order(self):
        loft = loft_with(1, a=[1])
        loft.freeze("s")
        full = [("file", "a", 200)] + [("write", 24 * k, [1] * 24) for k in range(3)]
        # No label, no parcel, too full, no room: each ahead of those behind it.
        self.refused_whole(loft, NoLabel, ["x"], "x", full + [None])
        self.refused_whole(loft, NoLabel, ["x"], "x", [])
        self.refused_whole(loft, NoParcel, [4], "s", full + [None])
        self.refused_whole(loft, NoParcel, [4], None, full + [("gone", "a")])
        self.refused_whole(loft, TooFull, [], "s", full)
        self.refused_whole(loft, TooFull, [], None, full)
        self.refused_whole(loft, NoRoom, [], "s", full[:2])
        self.refused_whole(loft, NoParcel, [0], "s", [])
        lay(loft, "s", [("gone", "a")])
        self.assertEqual(loft.names(""), [])

    def test_no_parcel_at_the_end(self):
        loft = loft_with(9, a=[1], b=[2])
        loft.freeze("s")
        for rows in ([], [("gone", "a")], [("gone", "b")], [("file", "a", 5)], [("file", "b", 5), ("write", 0, [1])],
                     [("file", "c", 5)], [("gone", "a"), ("file", "c", 5)]):
            self.refused_whole(loft, NoParcel, [len(rows)], "s", rows)
        lay(loft, None, [("file", "c", 5)])

    def test_too_full(self):
        loft = loft_with(120, a=list(range(60)))
        loft.freeze("s")
        self.refused_whole(loft, TooFull, [], "s", [("file", "a", 99), ("lend", 0, 60, "a", 0), ("write", 60, [1])])
        self.refused_whole(loft, TooFull, [], "s", [("file", "a", 99), ("write", 0, [1]), ("lend", 1, 60, "a", 0)])
        self.refused_whole(loft, TooFull, [], "s", [("file", "a", 99), ("lend", 0, 60, "a", 0),
                                                    ("again", 70, 1, "a", 59)])
        self.refused_whole(loft, TooFull, [], "s", [
            ("file", "a", 99), ("lend", 0, 31, "a", 0), ("file", "b", 99), ("again", 0, 31, "a", 0),
            ("again", 31, 30, "a", 1),
        ])
        rows = [("file", "a", 99), ("lend", 0, 60, "a", 0), ("again", 60, 39, "a", 0)]
        self.refused_whole(loft, TooFull, [], "s", rows)
        lay(loft, "s", [("file", "a", 99), ("lend", 0, 59, "a", 0), ("write", 60, [1]), ("file", "b", 60),
                        ("lend", 0, 60, "a", 0)])

    def test_too_full_by_what_stands_where_it_is_lent_to(self):
        # Of places 10 to 40 of the base, which are 0 to 30 of the new file, so many are lent again.
        loft = loft_with(120, a=[None] * 10 + list(range(31)))
        loft.freeze("s")
        rows = [("file", "a", 300), ("lend", 0, 31, "a", 10)]
        self.refused_whole(loft, TooFull, [], "s", rows + [("again", 100, 30, "a", 0)])
        self.refused_whole(loft, TooFull, [], "s", rows + [("again", 100, 30, "a", 1)])
        self.refused_whole(loft, TooFull, [], "s", rows + [("again", 100, 31, "a", 0), ("file", "b", 0)])
        for again in (("again", 100, 29, "a", 0), ("again", 100, 60, "a", 2), ("again", 100, 50, "a", 31)):
            each = loft.copied()
            lay(each, "s", rows + [again])
            self.assertEqual(each.held("", "a")[0], (0, 31))

    def test_too_full_behind_no_room(self):
        # What comes in a later row, and in a later file, is still ahead of want of room.
        loft = Loft(1)
        rows = [("file", "a", 99), ("write", 0, [1, 2]), ("file", "b", 99)] + [("write", 24 * k,
                                                                                [1] * 24) for k in range(3)]
        self.refused_whole(loft, TooFull, [], None, rows)
        self.refused_whole(loft, NoRoom, [], None, rows[:-1])

    def test_rows_that_double_what_there_is(self):
        loft = Loft(1)
        rows = [("file", "a", TOP), ("write", 0, [7])] + [("again", 2 ** k, 2 ** k, "a", 0) for k in range(39)]
        self.refused_whole(loft, TooFull, [], None, rows)
        self.refused_whole(loft, NoParcel, [len(rows)], None, rows + [("again", 2 ** 39, 2 ** 39, "a", 0)])
        lay(loft, None, rows[:7])
        self.assertEqual((loft.held("", "a"), loft.kept()), ([(0, 32)], [0]))
        # Holes may be doubled as often as there are places.
        holes = [("file", "a", TOP)] + [("again", 2 ** k, 2 ** k, "a", 0) for k in range(39)]
        lay(loft, None, holes)
        self.assertEqual((loft.size("", "a"), loft.held("", "a")), (TOP, []))

    def test_no_room_just_where_there_would_be_more_than_there_is_room_for(self):
        for room, enough in ((4, False), (5, True), (6, True)):
            loft = loft_with(room, a=[1, 2])
            loft.freeze("s")
            loft.hole("a", 0, 1)
            # One grain of the state's is held by it alone; 2 by living files too.
            loft.write("a", 5, [3, 4])
            rows = [("file", "a", 9), ("write", 0, [5]), ("file", "b", 5), ("write", 0, [6, 7])]
            if enough:
                lay(loft, "s", rows)
                self.assertEqual((loft.read("", "a", 0, 1), loft.read("", "b", 0, 2), loft.left()),
                                 ([5], [6, 7], room - 5))
            else:
                self.refused_whole(loft, NoRoom, [], "s", rows)

    def test_other_states_hold_on(self):
        loft = loft_with(4, a=[1, 2])
        loft.freeze("s")
        loft.write("a", 0, [3])
        loft.freeze("t")
        self.refused_whole(loft, NoRoom, [], "s", [("file", "a", 9), ("write", 0, [5, 6])])
        lay(loft, "s", [("file", "a", 9), ("write", 0, [5])])
        loft.forget("t")
        lay(loft, "s", [("file", "a", 9), ("write", 0, [5, 6])])
        self.assertEqual((loft.left(), loft.read("", "a", 0, 2)), (0, [5, 6]))

    def test_the_room_of_living_files_is_free(self):
        loft = loft_with(3, a=[1, 2, 3])
        lay(loft, None, [("file", "b", 9), ("write", 2, [4, 5, 6])])
        self.assertEqual((loft.names(""), loft.read("", "b", 2, 3)), (["b"], [4, 5, 6]))
        self.refused_whole(loft, NoRoom, [], None, [("file", "b", 9), ("write", 2, [4, 5, 6]), ("write", 5, [7])])

    def test_wrong(self):
        loft = loft_with(3, a=[1])
        loft.freeze("s")
        before = loft_state(loft)
        no_rows = no_lists() + [[("gone", "a")] * 601, [None] * 601, (("gone", "a"),)]
        no_bases = [thing for thing in no_names() if thing is not None]
        for base in ("s", None, "x"):
            self.wrong_in_each_way(lay, [loft, base, [None]], [no_objects() + [Loft], no_bases, no_rows])
        self.assertEqual(loft_state(loft), before)
        # 600 things are rows that aren't right.
        self.refused_whole(loft, NoParcel, [0], "s", [None] * 600)

    def test_what_is_good_is_taken_behind_it(self):
        loft = two_states()
        rows = parcel(loft, "s", "t")
        self.refused_whole(loft, NoParcel, [len(rows)], "s", rows + [()])
        lay(loft, "s", rows)
        self.assertEqual(reads(loft, ""), reads(loft, "t"))
        self.assertTrue(all(holders(loft, grain) for grain in loft.kept()))


if __name__ == "__main__":
    unittest.main()
