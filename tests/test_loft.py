"""Points 28, 29, 31: lofts, and the deeds on living files."""

import unittest

from lentloft.loft import Loft
from tests.cases import TOP, Case, loft_state, loft_with

SIX = ["a", "ab", "b", "ba", "zzzzzzzz", "c"]


class TestNew(Case):
    def test_there_is_nothing_at_first(self):
        for room in (1, 2, 60, 119, 120):
            loft = Loft(room)
            self.assertEqual((loft.names(""), loft.labels(), loft.kept(), loft.left()), ([], [], [], room))

    def test_all_rooms(self):
        for room in range(1, 121):
            self.assertEqual(Loft(room).left(), room)


class TestMakeAndDrop(Case):
    def test_names_are_sorted_whatever_the_order(self):
        loft = Loft(5)
        for many, name in enumerate(SIX, start=1):
            self.assertIsNone(loft.make(name))
            self.assertEqual(loft.names(""), sorted(SIX[:many]))
            self.assertEqual((loft.size("", name), loft.held("", name), loft.pieces("", name)), (0, [], []))
            self.assertEqual(loft.read("", name, 0, 60), [])

    def test_drop_lets_go_of_its_grains(self):
        loft = loft_with(5, a=[1, 2], b=[3])
        self.assertIsNone(loft.drop("a"))
        self.assertEqual((loft.names(""), loft.kept(), loft.left()), (["b"], [2], 4))
        self.assertEqual(loft.read("", "b", 0, 5), [3])

    def test_drop_of_one_of_two_that_share(self):
        loft = loft_with(5, a=[1, 2], b=[])
        loft.lend("", "a", 1, 1, "b", 3)
        loft.drop("a")
        self.assertEqual((loft.kept(), loft.holds(1), loft.read("", "b", 0, 9)), ([1], 1, [0, 0, 0, 2]))
        loft.drop("b")
        self.assertEqual((loft.kept(), loft.left(), loft.names("")), ([], 5, []))

    def test_a_name_that_went_is_free_again(self):
        loft = loft_with(1, a=[9])
        for _ in range(3):
            loft.drop("a")
            loft.make("a")
            self.assertEqual((loft.size("", "a"), loft.left()), (0, 1))
            loft.write("a", 0, [4])

    def test_six_files_at_once_each_goes_on_by_itself(self):
        loft = Loft(120)
        for name in SIX:
            loft.make(name)
        for k, name in enumerate(SIX):
            loft.write(name, k, [k, k + 1])
        for k, name in enumerate(SIX):
            self.assertEqual(loft.read("", name, 0, 60), [0] * k + [k, k + 1])
            self.assertEqual(loft.pieces("", name), [(k, 2, 2 * k)])
        loft.drop("b")
        loft.make("d")
        self.assertEqual(loft.names(""), ["a", "ab", "ba", "c", "d", "zzzzzzzz"])
        self.assertEqual(loft.kept(), [0, 1, 2, 3, 6, 7, 8, 9, 10, 11])


class TestDeeds(Case):
    def test_write_read_pieces_held(self):
        loft = loft_with(120, a=[])
        self.assertIsNone(loft.write("a", 3, [7, 0, 10 ** 9]))
        self.assertEqual(loft.size("", "a"), 6)
        self.assertEqual(loft.read("", "a", 0, 60), [0, 0, 0, 7, 0, 10 ** 9])
        self.assertEqual(loft.read("", "a", 4, 1), [0])
        self.assertEqual(loft.read("", "a", 4, 0), [])
        self.assertEqual(loft.read("", "a", TOP, 60), [])
        self.assertEqual(loft.held("", "a"), [(3, 6)])
        self.assertEqual(loft.pieces("", "a"), [(3, 3, 0)])
        self.assertEqual([loft.content_of(grain) for grain in loft.kept()], [7, 0, 10 ** 9])
        self.assertEqual([loft.holds(grain) for grain in loft.kept()], [1, 1, 1])

    def test_resize(self):
        loft = loft_with(4, a=[1, 2, 3])
        self.assertIsNone(loft.resize("a", TOP))
        self.assertEqual((loft.size("", "a"), loft.held("", "a")), (TOP, [(0, 3)]))
        loft.resize("a", 1)
        self.assertEqual((loft.size("", "a"), loft.kept(), loft.read("", "a", 0, 9)), (1, [0], [1]))
        loft.resize("a", 0)
        self.assertEqual((loft.size("", "a"), loft.kept()), (0, []))

    def test_hole(self):
        loft = loft_with(4, a=[1, 2, 3, 4])
        self.assertIsNone(loft.hole("a", 1, 2))
        self.assertEqual((loft.size("", "a"), loft.kept(), loft.read("", "a", 0, 9)), (4, [0, 3], [1, 0, 0, 4]))
        loft.hole("a", 3, TOP)
        self.assertEqual((loft.size("", "a"), loft.kept()), (4, [0]))
        loft.hole("a", 0, 0)
        loft.hole("a", TOP, TOP)
        self.assertEqual((loft.size("", "a"), loft.kept()), (4, [0]))

    def test_a_room_for_one(self):
        loft = loft_with(1, a=[5], b=[])
        loft.lend("", "a", 0, 1, "b", 2)
        loft.lend("", "b", 0, 3, "a", 0)
        self.assertEqual((loft.read("", "a", 0, 9), loft.read("", "b", 0, 9)), ([0, 0, 5], [0, 0, 5]))
        self.assertEqual((loft.holds(0), loft.left()), (2, 0))
        loft.drop("b")
        # The one grain is let go ahead of what is laid.
        loft.write("a", 2, [6])
        self.assertEqual((loft.read("", "a", 0, 9), loft.kept()), ([0, 0, 6], [0]))

    def test_a_room_for_all(self):
        loft = loft_with(120, a=[], b=[])
        for name in ("a", "b"):
            for at in (0, 24, 48):
                loft.write(name, at, list(range(at, min(at + 24, 60))))
        self.assertEqual((loft.left(), loft.kept()), (0, list(range(120))))
        self.assertEqual(loft.pieces("", "b"), [(0, 60, 60)])
        loft.twin("", "a", "c")
        self.assertEqual((loft.left(), loft.pieces("", "c")), (0, [(0, 60, 0)]))


class TestLend(Case):
    def test_out_of_a_living_file(self):
        loft = loft_with(9, a=[1, 2, 3], b=[])
        self.assertIsNone(loft.lend("", "a", 1, 2, "b", 5))
        self.assertEqual((loft.size("", "b"), loft.pieces("", "b"), loft.left()), (7, [(5, 2, 1)], 6))
        self.assertEqual([loft.holds(grain) for grain in (0, 1, 2)], [1, 2, 2])
        # A write takes a grain of its own.
        loft.write("a", 1, [8])
        self.assertEqual((loft.read("", "a", 0, 9), loft.read("", "b", 5, 9)), ([1, 8, 3], [2, 3]))

    def test_to_itself(self):
        loft = loft_with(9, a=[1, 2, 3])
        loft.lend("", "a", 0, 3, "a", 1)
        self.assertEqual((loft.read("", "a", 0, 9), loft.pieces("", "a")), ([1, 1, 2, 3], [(0, 1, 0), (1, 3, 0)]))
        loft.lend("", "a", 2, 2, "a", 0)
        self.assertEqual((loft.read("", "a", 0, 9), loft.kept()), ([2, 3, 2, 3], [1, 2]))
        loft.lend("", "a", 0, 4, "a", 0)
        self.assertEqual((loft.read("", "a", 0, 9), loft.holds(1), loft.holds(2)), ([2, 3, 2, 3], 2, 2))

    def test_out_of_a_frozen_file(self):
        loft = loft_with(9, a=[1, 2, 3], b=[])
        loft.freeze("s")
        loft.drop("a")
        loft.lend("s", "a", 1, 2, "b", 0)
        self.assertEqual((loft.read("", "b", 0, 9), loft.pieces("", "b")), ([2, 3], [(0, 2, 1)]))
        self.assertEqual([loft.holds(grain) for grain in (0, 1, 2)], [1, 2, 2])
        loft.make("a")
        # The frozen file of the name, not the living one.
        loft.lend("s", "a", 0, 1, "a", 4)
        self.assertEqual(loft.read("", "a", 0, 9), [0, 0, 0, 0, 1])
        self.assertEqual(loft.read("s", "a", 0, 9), [1, 2, 3])

    def test_holes_are_lent_as_holes(self):
        loft = loft_with(9, a=[1, None, 3], b=[5, 6, 7, 8])
        loft.freeze("s")
        for where in ("", "s"):
            loft.lend(where, "a", 0, 3, "b", 0)
            self.assertEqual(loft.read("", "b", 0, 9), [1, 0, 3, 8])
            self.assertEqual(loft.held("", "b"), [(0, 1), (2, 4)])

    def test_far_places(self):
        loft = loft_with(2, a=[4], b=[])
        loft.resize("a", TOP)
        loft.lend("", "a", 0, TOP, "b", 0)
        self.assertEqual((loft.size("", "b"), loft.held("", "b")), (TOP, [(0, 1)]))
        loft.lend("", "a", 0, 1, "b", TOP - 1)
        self.assertEqual(loft.held("", "b"), [(0, 1), (TOP - 1, TOP)])


class TestTwin(Case):
    def test_of_a_living_file(self):
        loft = loft_with(9, a=[1, None, 2, None])
        self.assertIsNone(loft.twin("", "a", "b"))
        self.assertEqual(loft.names(""), ["a", "b"])
        self.assertEqual((loft.size("", "b"), loft.pieces("", "b")), (4, loft.pieces("", "a")))
        self.assertEqual(([loft.holds(grain) for grain in loft.kept()], loft.left()), ([2, 2], 7))
        loft.write("b", 0, [9])
        self.assertEqual((loft.read("", "a", 0, 9), loft.read("", "b", 0, 9)), ([1, 0, 2, 0], [9, 0, 2, 0]))

    def test_of_a_frozen_file(self):
        loft = loft_with(9, a=[1, 2])
        loft.freeze("a")
        loft.drop("a")
        loft.twin("a", "a", "a")
        loft.twin("a", "a", "b")
        self.assertEqual((loft.names(""), loft.read("", "a", 0, 9), loft.read("", "b", 0, 9)),
                         (["a", "b"], [1, 2], [1, 2]))
        self.assertEqual([loft.holds(grain) for grain in loft.kept()], [3, 3])

    def test_of_an_empty_file_and_of_holes(self):
        loft = loft_with(1, a=[], b=[None] * 7)
        loft.twin("", "a", "c")
        loft.twin("", "b", "d")
        self.assertEqual([loft.size("", name) for name in "abcd"], [0, 7, 0, 7])

    def test_up_to_six(self):
        loft = loft_with(1, a=[3])
        for name in "bcdef":
            loft.twin("", "a", name)
        self.assertEqual((loft.names(""), loft.holds(0), loft.left()), (list("abcdef"), 6, 0))


class TestHolding(Case):
    def test_each_grain_is_held_as_often_as_it_stands(self):
        loft = loft_with(120, a=[1, 2, None, 3], b=[4], c=[])
        deeds = (
            ("lend", "", "a", 0, 4, "b", 2), ("freeze", "s"), ("lend", "s", "b", 0, 3, "c", 1), ("twin", "s", "a", "d"),
            ("write", "a", 1, [5, 6]), ("freeze", "t"), ("hole", "b", 0, 3), ("drop", "c"), ("back", "s"),
            ("exchange", 0, 0), ("resize", "b", 3), ("forget", "s"), ("lend", "t", "a", 0, 4, "a", 4), ("drop", "a"),
            ("back", "t"), ("forget", "t"), ("drop", "a"), ("drop", "b"), ("drop", "c"), ("drop", "d"),
        )
        for word, *things in deeds:
            self.assertIsNone(getattr(loft, word)(*things), word)
            self.rule_of_holding(loft)
        self.assertEqual((loft.kept(), loft.left(), loft.names("")), ([], 120, []))

    def test_asking_changes_nothing(self):
        loft = loft_with(20, a=[1, 2, None, 3], b=[4])
        loft.freeze("s")
        loft.write("a", 2, [7])
        before = loft_state(loft)
        for _ in range(3):
            self.assertEqual(loft_state(loft), before)


if __name__ == "__main__":
    unittest.main()
