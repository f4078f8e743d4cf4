"""Points 5, 6, 30, 31, 33, 34, 35: frozen states, exchanges, copied lofts, and the room that there is."""

import itertools
import unittest

from lentloft.errors import NoRoom, TooMany, Unlike
from lentloft.loft import Loft
from tests.cases import Case, loft_file_state, loft_state, loft_with

FIVE = ["s", "b", "winter", "a", "zzzzzzzz"]


def state_of(loft, where):
    """All that is told of the files of a state."""
    return {name: loft_file_state(loft, where, name) for name in loft.names(where)}


class TestFreeze(Case):
    def test_labels_in_the_order_of_freezing(self):
        loft = loft_with(3, a=[1])
        for many, label in enumerate(FIVE, start=1):
            self.assertIsNone(loft.freeze(label))
            self.assertEqual(loft.labels(), FIVE[:many])
            self.assertEqual(loft.holds(0), many + 1)
        self.assertEqual(loft.names("winter"), ["a"])

    def test_all_orders_of_five_labels(self):
        for order in itertools.permutations("abcde"):
            loft = Loft(1)
            for label in order:
                loft.freeze(label)
            self.assertEqual(loft.labels(), list(order))

    def test_forgetting_one_amid_them_and_freezing_under_it_again(self):
        for at in range(5):
            loft = loft_with(3, a=[1])
            for label in FIVE:
                loft.freeze(label)
            loft.forget(FIVE[at])
            left = FIVE[:at] + FIVE[at + 1:]
            self.assertEqual(loft.labels(), left)
            loft.freeze(FIVE[at])
            self.assertEqual(loft.labels(), left + [FIVE[at]])
            self.unchanged(loft, TooMany, [5], "freeze", "x")

    def test_names_of_a_state_are_those_of_then(self):
        loft = Loft(1)
        for name in ("c", "a", "b"):
            loft.make(name)
        loft.freeze("s")
        loft.drop("a")
        loft.make("d")
        loft.freeze("t")
        self.assertEqual((loft.names("s"), loft.names("t"), loft.names("")),
                         (["a", "b", "c"], list("bcd"), list("bcd")))

    def test_a_state_without_files(self):
        loft = Loft(2)
        loft.freeze("s")
        loft.make("a")
        loft.write("a", 0, [1])
        self.assertEqual((loft.names("s"), loft.labels()), ([], ["s"]))
        loft.back("s")
        self.assertEqual((loft.names(""), loft.kept()), ([], []))

    def test_a_label_may_be_a_name_too(self):
        loft = loft_with(2, a=[1])
        loft.freeze("a")
        loft.write("a", 0, [2])
        self.assertEqual((loft.read("a", "a", 0, 1), loft.read("", "a", 0, 1)), ([1], [2]))

    def test_what_a_state_tells_stays(self):
        loft = loft_with(120, a=[1, 2, None, 3], b=[4], c=[None, None])
        loft.lend("", "a", 0, 2, "c", 5)
        loft.freeze("s")
        before = state_of(loft, "s")
        deeds = (
            ("write", "a", 0, [9, 9]), ("hole", "b", 0, 1), ("resize", "c", 6), ("lend", "s", "a", 0, 4, "b", 1),
            ("drop", "a"), ("make", "a"), ("twin", "s", "c", "d"), ("freeze", "t"), ("back", "t"), ("back", "s"),
            ("write", "c", 5, [7]), ("forget", "t"), ("drop", "b"), ("drop", "c"), ("back", "s"), ("drop", "a"),
            ("freeze", "u"), ("back", "u"), ("forget", "u"),
        )
        for word, *things in deeds:
            getattr(loft, word)(*things)
            self.assertEqual(state_of(loft, "s"), before, word)
            self.rule_of_holding(loft)


class TestForget(Case):
    def test_its_files_go(self):
        loft = loft_with(9, a=[1, 2], b=[3])
        loft.freeze("s")
        loft.write("a", 0, [5])
        self.assertEqual(loft.kept(), [0, 1, 2, 3])
        self.assertIsNone(loft.forget("s"))
        self.assertEqual((loft.labels(), loft.kept(), loft.read("", "a", 0, 9)), ([], [1, 2, 3], [5, 2]))
        self.assertEqual([loft.holds(grain) for grain in loft.kept()], [1, 1, 1])

    def test_another_state_holds_on(self):
        loft = loft_with(9, a=[1, 2])
        loft.freeze("s")
        loft.freeze("t")
        loft.drop("a")
        loft.forget("s")
        self.assertEqual((loft.kept(), loft.read("t", "a", 0, 9)), ([0, 1], [1, 2]))
        loft.forget("t")
        self.assertEqual((loft.kept(), loft.left()), ([], 9))


class TestBack(Case):
    def test_copies_of_the_states_files(self):
        loft = loft_with(9, a=[1, 2], b=[3])
        loft.freeze("s")
        loft.drop("b")
        loft.make("c")
        loft.write("a", 0, [4])
        self.assertIsNone(loft.back("s"))
        self.assertEqual(state_of(loft, ""), state_of(loft, "s"))
        self.assertEqual((loft.names(""), loft.kept(), loft.labels()), (["a", "b"], [0, 1, 2], ["s"]))
        self.assertEqual([loft.holds(grain) for grain in loft.kept()], [2, 2, 2])
        loft.write("a", 0, [6])
        self.assertEqual((loft.read("s", "a", 0, 9), loft.read("", "a", 0, 9)), ([1, 2], [6, 2]))

    def test_living_files_that_alone_hold_grains(self):
        loft = loft_with(4, a=[1, 2])
        loft.freeze("s")
        loft.write("a", 0, [7, 8])
        self.assertEqual(loft.left(), 0)
        loft.back("s")
        self.assertEqual((loft.kept(), loft.read("", "a", 0, 9), loft.left()), ([0, 1], [1, 2], 2))

    def test_without_any_room_left(self):
        loft = loft_with(1, a=[1])
        for label in FIVE:
            loft.freeze(label)
        for label in FIVE:
            loft.back(label)
            self.assertEqual((loft.read("", "a", 0, 2), loft.holds(0), loft.left()), ([1], 6, 0))

    def test_there_and_back_again(self):
        loft = loft_with(9, a=[1, 2])
        loft.freeze("s")
        loft.write("a", 1, [3])
        loft.freeze("t")
        for label, read in (("s", [1, 2]), ("t", [1, 3]), ("t", [1, 3]), ("s", [1, 2])):
            loft.back(label)
            self.assertEqual(loft.read("", "a", 0, 9), read)
            self.assertEqual(loft.kept(), [0, 1, 2])
        self.assertEqual(loft.labels(), ["s", "t"])

    def test_six_files_go_and_six_come(self):
        loft = loft_with(12, **{name: [k, k + 1] for k, name in enumerate("abcdef")})
        loft.freeze("s")
        for name in "abcdef":
            loft.drop(name)
        for name in "ghijkl":
            loft.make(name)
        loft.back("s")
        self.assertEqual((loft.names(""), loft.left()), (list("abcdef"), 0))


class TestExchange(Case):
    def test_all_places_of_living_and_frozen_files(self):
        loft = loft_with(9, a=[7, 7, 5], b=[7])
        loft.lend("", "a", 0, 3, "a", 4)
        loft.freeze("s")
        loft.freeze("t")
        loft.hole("b", 0, 1)
        read = {where: {name: loft.read(where, name, 0, 60) for name in "ab"} for where in ("", "s", "t")}
        self.assertIsNone(loft.exchange(1, 3))
        self.assertEqual((loft.kept(), loft.left()), ([0, 2, 3], 6))
        self.assertEqual(loft.holds(3), 8)
        for where in ("", "s", "t"):
            self.assertEqual(loft.pieces(where, "a"), [(0, 1, 0), (1, 1, 3), (2, 1, 2), (4, 1, 0), (5, 1, 3),
                                                       (6, 1, 2)])
            for name in "ab":
                self.assertEqual(loft.read(where, name, 0, 60), read[where][name])
        self.rule_of_holding(loft)

    def test_for_a_greater_and_for_a_lesser_one(self):
        for grain, other in ((0, 1), (1, 0)):
            loft = loft_with(2, a=[4, 4])
            loft.exchange(grain, other)
            self.assertEqual((loft.kept(), loft.holds(other)), ([other], 2))
            self.assertEqual(loft.read("", "a", 0, 9), [4, 4])
            # The number of the one that went is free.
            loft.write("a", 2, [9])
            self.assertEqual(loft.pieces("", "a")[-1], (2, 1, grain) if grain == 0 else (1, 2, 0))

    def test_in_frozen_files_alone(self):
        loft = loft_with(4, a=[4, 4])
        loft.freeze("s")
        loft.drop("a")
        loft.exchange(1, 0)
        self.assertEqual((loft.kept(), loft.holds(0), loft.pieces("s", "a")), ([0], 2, [(0, 1, 0), (1, 1, 0)]))

    def test_a_full_file(self):
        loft = loft_with(60, a=[3] * 60)
        loft.freeze("s")
        loft.exchange(59, 0)
        self.assertEqual((loft.left(), loft.holds(0), loft.held("", "a")), (1, 4, [(0, 60)]))

    def test_of_a_grain_for_itself_nothing_is_done(self):
        loft = loft_with(3, a=[4, 4])
        loft.freeze("s")
        before = loft_state(loft)
        for grain in (0, 1):
            self.assertIsNone(loft.exchange(grain, grain))
            self.assertEqual(loft_state(loft), before)

    def test_unlike_by_a_little(self):
        loft = loft_with(4, a=[0, 1, 10 ** 9, 10 ** 9 - 1])
        for one in range(4):
            for other in range(4):
                if one != other:
                    self.unchanged(loft, Unlike, [], "exchange", one, other)


class TestCopied(Case):
    def both(self):
        loft = loft_with(20, a=[1, 2, None], b=[3, 3])
        loft.lend("", "b", 0, 2, "a", 7)
        loft.freeze("s")
        loft.write("a", 0, [5])
        loft.freeze("t")
        loft.hole("b", 0, 1)
        loft.drop("b")
        loft.forget("s")
        loft.freeze("s")
        return loft, loft.copied()

    def test_the_same_files_states_grains_and_numbers(self):
        loft, copy = self.both()
        self.assertIs(type(copy), Loft)
        self.assertIsNot(copy, loft)
        self.assertEqual(loft_state(copy), loft_state(loft))
        self.assertEqual(copy.labels(), ["t", "s"])
        self.rule_of_holding(copy)
        self.assertEqual(loft_state(copy.copied()), loft_state(loft))

    def test_of_a_new_loft(self):
        for room in (1, 57, 120):
            self.assertEqual(loft_state(Loft(room).copied()), loft_state(Loft(room)))

    def test_each_goes_on_by_itself(self):
        deeds = (
            ("make", "c"), ("drop", "a"), ("resize", "a", 1), ("resize", "a", 900), ("write", "a", 1, [8, 9]),
            ("hole", "a", 0, 9), ("lend", "t", "b", 0, 2, "a", 0), ("twin", "t", "b", "b"), ("freeze", "u"),
            ("forget", "t"), ("forget", "s"), ("back", "t"), ("exchange", 3, 2), ("exchange", 2, 3),
        )
        for word, *things in deeds:
            for turn in (0, 1):
                lofts = self.both()
                before = loft_state(lofts[0])
                getattr(lofts[turn], word)(*things)
                self.assertEqual(loft_state(lofts[1 - turn]), before, word)
                self.assertNotEqual(loft_state(lofts[turn]), before, word)
                getattr(lofts[1 - turn], word)(*things)
                self.assertEqual(loft_state(lofts[0]), loft_state(lofts[1]), word)
                self.rule_of_holding(lofts[0])
                self.rule_of_holding(lofts[1])

    def test_room_goes_along(self):
        loft = loft_with(2, a=[1, 2])
        copy = loft.copied()
        copy.resize("a", 1)
        self.assertEqual((loft.left(), copy.left()), (0, 1))
        copy.write("a", 4, [5])
        self.unchanged(copy, NoRoom, [], "write", "a", 5, [6])
        self.unchanged(loft, NoRoom, [], "write", "a", 5, [6])


class TestRoom(Case):
    def test_a_write_where_what_it_lets_go_is_gone(self):
        loft = loft_with(3, a=[1, 2, 3])
        loft.write("a", 0, [4, 5, 6])
        self.assertEqual((loft.read("", "a", 0, 9), loft.left()), ([4, 5, 6], 0))
        self.unchanged(loft, NoRoom, [], "write", "a", 1, [7, 8, 9])
        loft.write("a", 1, [7, 8])
        self.assertEqual(loft.read("", "a", 0, 9), [4, 7, 8])

    def test_what_is_written_over_is_frozen_too(self):
        loft = loft_with(3, a=[1, 2])
        loft.freeze("s")
        self.unchanged(loft, NoRoom, [], "write", "a", 0, [4, 5])
        loft.write("a", 0, [4])
        self.unchanged(loft, NoRoom, [], "write", "a", 1, [5])
        loft.write("a", 0, [6])
        self.assertEqual((loft.read("", "a", 0, 9), loft.read("s", "a", 0, 9)), ([6, 2], [1, 2]))
        loft.forget("s")
        loft.write("a", 1, [7, 8])
        self.assertEqual((loft.read("", "a", 0, 9), loft.left()), ([6, 7, 8], 0))

    def test_what_is_written_over_is_held_by_another_file(self):
        loft = loft_with(2, a=[1, 2], b=[])
        loft.lend("", "a", 0, 1, "b", 0)
        self.unchanged(loft, NoRoom, [], "write", "a", 0, [4, 5])
        loft.write("a", 1, [4])
        loft.drop("b")
        loft.write("a", 0, [4, 5])
        self.assertEqual(loft.read("", "a", 0, 9), [4, 5])

    def test_what_is_written_over_is_held_by_places_of_the_same_file(self):
        loft = loft_with(1, a=[1])
        loft.lend("", "a", 0, 1, "a", 1)
        self.unchanged(loft, NoRoom, [], "write", "a", 0, [4])
        self.unchanged(loft, NoRoom, [], "write", "a", 1, [4])
        self.unchanged(loft, NoRoom, [], "write", "a", 0, [4, 5])
        loft.hole("a", 1, 1)
        loft.write("a", 0, [4])

    def test_no_other_deed_wants_room(self):
        loft = loft_with(1, a=[1], b=[])
        deeds = (
            ("make", "c"), ("resize", "b", 5), ("hole", "b", 0, 2), ("lend", "", "a", 0, 1, "b", 3),
            ("twin", "", "a", "d"),
            ("freeze", "s"), ("lend", "s", "a", 0, 1, "c", 3), ("twin", "s", "b", "e"), ("back", "s"),
            ("exchange", 0, 0),
            ("freeze", "t"), ("forget", "s"), ("drop", "b"), ("back", "t"),
        )
        for word, *things in deeds:
            self.assertEqual(loft.left(), 0)
            getattr(loft, word)(*things)
            self.rule_of_holding(loft)


if __name__ == "__main__":
    unittest.main()
