"""Points 8, 40 to 42: likes, merging and parting."""

import random
import unittest

from lentloft.errors import NoFile, NoRoom
from lentloft.loft import Loft
from lentloft.merging import likes, merge, part
from lentloft.owing import owners
from tests.cases import Case, loft_state, loft_with
from tests.samples import no_many_of, no_names, no_objects


def reads(loft):
    """What is read of all files, living and frozen, and which places are no holes."""
    return {(where, name): (loft.size(where, name), loft.held(where, name), loft.read(where, name, 0, 60))
            for where, name in owners(loft)}


def with_likes():
    """Grains 0 to 8 with the contents 7 5 7 5 5 9 7 8 9, in living and frozen files."""
    loft = loft_with(20, a=[7, 5, 7], b=[5, 5, None, 9])
    loft.freeze("s")
    loft.drop("a")
    loft.write("b", 4, [7, 8, 9])
    loft.freeze("t")
    return loft


class TestLikes(Case):
    def test_none(self):
        for loft in (Loft(1), loft_with(5, a=[1, 2, 3]), loft_with(5, a=[0], b=[None, None])):
            self.assertEqual(likes(loft), [])

    def test_one_content(self):
        self.assertEqual(likes(loft_with(5, a=[3, 3])), [[0, 1]])
        self.assertEqual(likes(loft_with(5, a=[3, 4], b=[3, 3])), [[0, 2, 3]])

    def test_several_contents(self):
        self.assertEqual(likes(with_likes()), [[0, 2, 6], [1, 3, 4], [5, 8]])

    def test_in_the_order_of_first_grains_not_of_contents(self):
        self.assertEqual(likes(loft_with(9, a=[9, 1, 5, 1, 9, 5, 0])), [[0, 4], [1, 3], [2, 5]])
        self.assertEqual(likes(loft_with(9, a=[4, 9, 1, 1, 9])), [[1, 4], [2, 3]])

    def test_one_grain_at_many_places_is_none(self):
        loft = loft_with(9, a=[4])
        loft.lend("", "a", 0, 1, "a", 1)
        loft.twin("", "a", "b")
        self.assertEqual(likes(loft), [])

    def test_a_content_of_nought_is_no_hole(self):
        self.assertEqual(likes(loft_with(9, a=[0, None, 0])), [[0, 1]])

    def test_grains_of_frozen_states(self):
        loft = loft_with(9, a=[1])
        loft.freeze("s")
        loft.write("a", 0, [1])
        self.assertEqual(likes(loft), [[0, 1]])


class TestMerge(Case):
    def test_nought_times(self):
        loft = with_likes()
        before = loft_state(loft)
        self.assertEqual(merge(loft, 0), 0)
        self.assertEqual(loft_state(loft), before)

    def test_once_after_another(self):
        loft = with_likes()
        before = reads(loft)
        # The least grain that has a lesser one alike: 2 for 0, 3 and 4 for 1, 6 for 0, 8 for 5.
        for kept in ([0, 1, 3, 4, 5, 6, 7, 8], [0, 1, 4, 5, 6, 7, 8], [0, 1, 5, 6, 7, 8], [0, 1, 5, 7, 8],
                     [0, 1, 5, 7]):
            self.assertEqual(merge(loft, 1), 1)
            self.assertEqual(loft.kept(), kept)
            self.assertEqual(reads(loft), before)
            self.rule_of_holding(loft)
        self.assertEqual((merge(loft, 1), merge(loft, 120)), (0, 0))
        self.assertEqual(loft.pieces("s", "a"), [(0, 2, 0), (2, 1, 0)])
        self.assertEqual(loft.pieces("s", "b"), [(0, 1, 1), (1, 1, 1), (3, 1, 5)])
        self.assertEqual(loft.pieces("", "b"), [(0, 1, 1), (1, 1, 1), (3, 1, 5), (4, 1, 0), (5, 1, 7), (6, 1, 5)])
        self.assertEqual([loft.holds(grain) for grain in loft.kept()], [4, 7, 5, 2])

    def test_more_often_than_can_be(self):
        for most in (5, 6, 119, 120):
            loft = with_likes()
            before = reads(loft)
            self.assertEqual(merge(loft, most), 5)
            self.assertEqual((loft.kept(), likes(loft), reads(loft)), ([0, 1, 5, 7], [], before))

    def test_in_pieces_it_comes_to_the_same(self):
        whole = with_likes()
        merge(whole, 120)
        for pieces in ((1, 4), (2, 3), (3, 2), (4, 1), (1, 1, 1, 1, 1), (0, 2, 0, 120), (2, 1, 2), (5, 0)):
            loft = with_likes()
            self.assertEqual(sum(merge(loft, most) for most in pieces), 5)
            self.assertEqual(loft_state(loft), loft_state(whole))

    def test_by_chance_in_pieces(self):
        chance = random.Random(7)
        for _ in range(20):
            loft = loft_with(120, **{name: [chance.randint(0, 4) for _ in range(chance.randint(0,
                                                                                               12))] for name in "abc"})
            loft.freeze("s")
            if loft.size("", "a"):
                loft.write("a", 0, [chance.randint(0, 4)])
            before, whole = reads(loft), loft.copied()
            unlike = {loft.content_of(grain) for grain in loft.kept()}
            done = merge(whole, 120)
            self.assertEqual((done, len(whole.kept())), (len(loft.kept()) - len(unlike), len(unlike)))
            while merge(loft, chance.randint(1, 4)):
                self.assertEqual(reads(loft), before)
                self.rule_of_holding(loft)
            self.assertEqual(loft_state(loft), loft_state(whole))

    def test_all_of_120_alike(self):
        loft = loft_with(120, a=[6] * 60, b=[6] * 60)
        loft.freeze("s")
        self.assertEqual(merge(loft, 118), 118)
        self.assertEqual((loft.kept(), loft.holds(0), loft.holds(119)), ([0, 119], 238, 2))
        self.assertEqual((merge(loft, 120), loft.kept(), loft.holds(0), loft.left()), (1, [0], 240, 119))

    def test_copies_go_on_by_themselves(self):
        loft = with_likes()
        copy = loft.copied()
        before = loft_state(loft)
        merge(copy, 120)
        self.assertEqual(loft_state(loft), before)

    def test_a_write_behind_it_takes_a_grain_of_its_own(self):
        loft = loft_with(3, a=[4, 4], b=[4])
        merge(loft, 120)
        loft.write("a", 0, [4])
        self.assertEqual((loft.pieces("", "a"), loft.pieces("", "b")), ([(0, 1, 1), (1, 1, 0)], [(0, 1, 0)]))
        loft.write("a", 1, [5])
        self.assertEqual((loft.read("", "a", 0, 9), loft.read("", "b", 0, 9)), ([4, 5], [4]))


class TestPart(Case):
    def parted(self, loft, name, laid):
        before = reads(loft)
        self.assertEqual(part(loft, name), laid)
        self.assertEqual(reads(loft), before)
        self.rule_of_holding(loft)
        grains = [grain + k for place, many, grain in loft.pieces("", name) for k in range(many)]
        self.assertEqual([loft.holds(grain) for grain in grains], [1] * len(grains))
        self.assertEqual(part(loft, name), 0)

    def test_nothing_shared(self):
        for contents in ([], [None], [1], [1, None, 1]):
            loft = loft_with(2, a=contents)
            before = loft_state(loft)
            self.parted(loft, "a", 0)
            self.assertEqual(loft_state(loft), before)

    def test_what_is_not_shared_keeps_its_grain(self):
        # Lesser numbers are free, yet just the shared place takes one.
        loft = loft_with(9, a=[1, 2, 3, 4], b=[])
        loft.hole("a", 0, 2)
        before = loft_state(loft)
        self.parted(loft, "a", 0)
        self.assertEqual(loft_state(loft), before)
        loft.lend("", "a", 3, 1, "b", 0)
        self.parted(loft, "a", 1)
        self.assertEqual((loft.pieces("", "a"), loft.pieces("", "b")), ([(2, 1, 2), (3, 1, 0)], [(0, 1, 3)]))

    def test_shared_with_itself(self):
        loft = loft_with(9, a=[5, 6])
        loft.lend("", "a", 0, 2, "a", 3)
        loft.lend("", "a", 0, 1, "a", 9)
        self.parted(loft, "a", 3)
        # By rising places: the last place that holds a grain keeps it.
        self.assertEqual(loft.pieces("", "a"), [(0, 2, 2), (3, 1, 4), (4, 1, 1), (9, 1, 0)])

    def test_shared_with_another_file(self):
        loft = loft_with(9, a=[5, 6, 7], b=[])
        loft.lend("", "a", 0, 2, "b", 4)
        self.parted(loft.copied(), "b", 2)
        self.parted(loft, "a", 2)
        self.assertEqual((loft.pieces("", "a"), loft.pieces("", "b")), ([(0, 2, 3), (2, 1, 2)], [(4, 2, 0)]))

    def test_shared_with_a_frozen_state(self):
        loft = loft_with(9, a=[5, 6, 7])
        loft.freeze("s")
        self.parted(loft, "a", 3)
        self.assertEqual((loft.pieces("", "a"), loft.pieces("s", "a"), loft.left()), ([(0, 3, 3)], [(0, 3, 0)], 3))

    def test_shared_with_itself_and_others(self):
        loft = loft_with(9, a=[5, 6], b=[])
        loft.lend("", "a", 0, 2, "a", 2)
        loft.lend("", "a", 0, 1, "b", 0)
        self.parted(loft, "a", 3)
        self.assertEqual((loft.pieces("", "a"), loft.pieces("", "b")), ([(0, 3, 2), (3, 1, 1)], [(0, 1, 0)]))

    def test_numbers_are_the_least_that_are_free(self):
        loft = loft_with(9, a=[5, 6, 7], b=[8, 9])
        loft.hole("b", 0, 1)
        loft.twin("", "a", "c")
        loft.hole("a", 1, 1)
        loft.hole("c", 1, 1)
        self.assertEqual(loft.kept(), [0, 2, 4])
        self.parted(loft, "c", 2)
        self.assertEqual(loft.pieces("", "c"), [(0, 1, 1), (2, 1, 3)])

    def test_with_just_enough_room_and_with_too_little(self):
        for room, enough in ((5, False), (6, True), (7, True)):
            loft = loft_with(room, a=[5, 6, 7])
            loft.freeze("s")
            if enough:
                self.parted(loft, "a", 3)
            else:
                before = loft_state(loft)
                self.refused(NoRoom, [], part, loft, "a")
                self.assertEqual(loft_state(loft), before)

    def test_without_any_room(self):
        loft = loft_with(2, a=[5, 6], b=[])
        before = loft_state(loft)
        self.assertEqual(part(loft, "a"), 0)
        self.assertEqual(loft_state(loft), before)
        loft.lend("", "a", 0, 1, "a", 7)
        before = loft_state(loft)
        self.refused(NoRoom, [], part, loft, "a")
        self.assertEqual(loft_state(loft), before)
        self.assertEqual(part(loft, "b"), 0)

    def test_one_grain_keeps_its_place_where_only_the_file_holds_it(self):
        # Of three places two are laid anew: there is room for just these.
        for room, enough in ((2, False), (3, True)):
            loft = loft_with(room, a=[5])
            loft.lend("", "a", 0, 1, "a", 1)
            loft.lend("", "a", 0, 1, "a", 2)
            if enough:
                self.parted(loft, "a", 2)
                self.assertEqual(loft.pieces("", "a"), [(0, 2, 1), (2, 1, 0)])
            else:
                self.refused(NoRoom, [], part, loft, "a")

    def test_a_full_file(self):
        loft = loft_with(120, a=list(range(60)))
        loft.freeze("s")
        self.parted(loft, "a", 60)
        self.assertEqual((loft.left(), loft.pieces("", "a")), (0, [(0, 60, 60)]))

    def test_no_file(self):
        loft = loft_with(1, a=[5])
        loft.freeze("s")
        loft.twin("", "a", "b")
        self.refused(NoRoom, [], part, loft, "a")
        self.refused(NoFile, ["x"], part, loft, "x")
        self.refused(NoFile, ["s"], part, loft, "s")
        loft.drop("a")
        # A frozen file of the name is none.
        self.refused(NoFile, ["a"], part, loft, "a")

    def test_parting_and_merging_again(self):
        loft = loft_with(9, a=[5, 6], b=[])
        loft.freeze("s")
        loft.lend("", "a", 0, 2, "b", 0)
        before = loft_state(loft)
        self.assertEqual((part(loft, "a"), part(loft, "b")), (2, 2))
        self.assertEqual(merge(loft, 120), 4)
        self.assertEqual(loft_state(loft), before)


class TestWrong(Case):
    def test_each_argument(self):
        loft = with_likes()
        before = loft_state(loft)
        no_lofts = no_objects() + [Loft, "a", loft_state]
        self.wrong_in_each_way(likes, [loft], [no_lofts])
        for most in (0, 1, 120):
            self.wrong_in_each_way(merge, [loft, most], [no_lofts, no_many_of(120)])
        for name in ("a", "b", "x"):
            self.wrong_in_each_way(part, [loft, name], [no_lofts, no_names()])
        self.assertEqual(loft_state(loft), before)
        self.assertEqual(merge(loft, 120), 5)


if __name__ == "__main__":
    unittest.main()
