"""Points 10, 51: logs that are cut anywhere come up."""

import random
import unittest

from lentloft.errors import LoftError, NoLog
from lentloft.logs import Keeper, come_up
from tests.cases import Case, loft_state
from tests.chances import deed_of
from tests.lofts import PlainLoft
from tests.samples import no_rooms, no_wholes
from tests.texts import PATTERN

STEPS = (
    [("make", "a")],
    [("write", "a", 0, [1, 1, 2])],
    [("freeze", "s"), ("merge", 3), ("write", "a", 4, [10 ** 9])],
    [("twin", "s", "a", "b")],
    [("drop", "b")],
    [("lend", "s", "a", 0, 3, "a", 9), ("part", "a")],
    [("lay", "s", [("file", "a", 9), ("lend", 0, 2, "a", 0), ("write", 5, [4, 5])])],
    [("forget", "s")],
    [("make", "c"), ("make", "d"), ("make", "e"), ("hole", "a", 0, 1), ("resize", "c", 10 ** 12), ("drop", "e"),
     ("make", "f"),
     ("merge", 0), ("freeze", "t"), ("drop", "f"), ("make", "f"), ("back", "t")],
)


def whole_log(room=20):
    """The log of the steps; and, for each text that a cut log may come up as, the state then."""
    keeper = Keeper(room)
    states = {"": loft_state(keeper.kept_loft())}
    for step in STEPS:
        if len(step) == 1:
            keeper.do(step[0])
        else:
            keeper.do_together(step)
        states[keeper.log()] = loft_state(keeper.kept_loft())
    return keeper.log(), states


def text_of(*rows):
    return "".join(row + "\n" for row in rows)


class TestCut(Case):
    def test_behind_each_sign(self):
        log, states = whole_log()
        for end in range(len(log) + 1):
            cut = log[:end]
            left = max((text for text in states if cut.startswith(text)), key=len)
            keeper = come_up(20, cut)
            self.assertIs(type(keeper), Keeper)
            self.assertEqual(keeper.log(), left)
            self.assertEqual(loft_state(keeper.kept_loft()), states[left])
            self.assertEqual(loft_state(keeper.loft()), states[left])
        self.assertEqual(come_up(20, log).log(), log)

    def test_it_goes_on_as_one_that_was_never_cut(self):
        log, states = whole_log()
        for end in range(0, len(log) + 1, 7):
            keeper = come_up(20, log[:end])
            done = list(states).index(keeper.log())
            for step in STEPS[done:]:
                if len(step) == 1:
                    keeper.do(step[0])
                else:
                    keeper.do_together(step)
            self.assertEqual(keeper.log(), log)
            self.assertEqual(loft_state(keeper.kept_loft()), states[log])
            self.rule_of_holding(keeper.kept_loft())

    def test_no_signs(self):
        keeper = come_up(7, "")
        self.assertEqual((keeper.log(), loft_state(keeper.kept_loft())), ("", loft_state(Keeper(7).kept_loft())))

    def test_without_a_line_feed_all_is_left_aside(self):
        for text in ("make a", "make", "begin", "end", "nonsense", " ", "make a ", "m"):
            self.assertEqual(come_up(7, text).log(), "")
        for text in ("drop x", "nonsense", "end", "begin", ""):
            self.assertEqual(come_up(7, "make a\n" + text).log(), "make a\n")

    def test_all_from_the_last_begin_row_on(self):
        for more in ([], ["make b"], ["make b", "drop b"], ["drop nofile"], ["make b"] * 12):
            for tail in ("", "en", "end", "beg", "nonsense"):
                keeper = come_up(7, text_of("make a", "begin", *more) + tail)
                self.assertEqual((keeper.log(), keeper.kept_loft().names("")), ("make a\n", ["a"]))

    def test_an_earlier_begin_stays(self):
        whole = text_of("begin", "make a", "end", "make b")
        for more in ("begin\n", "begin\nmake c\n", "begin\nmake c\nend"):
            keeper = come_up(7, whole + more)
            self.assertEqual((keeper.log(), keeper.kept_loft().names("")), (whole, ["a", "b"]))

    def test_up_to_twelve_between_begin_and_end(self):
        for many in range(1, 13):
            rows = ["begin"] + [f"freeze {label}" for label in "stuvw"[:many]] + ["merge 0"] * max(0,
                                                                                                   many - 5) + ["end"]
            self.assertEqual(come_up(7, text_of(*rows)).log(), text_of(*rows))

    def test_with_more_room_and_with_less(self):
        log = text_of("make a", "write a 0 1 2 3", "write a 0 4")
        for room in (3, 4, 120):
            self.assertEqual(come_up(room, log).kept_loft().left(), room - 3)
        for room in (1, 2):
            self.refused(NoLog, [1], come_up, room, log)

    def test_by_chance(self):
        chance = random.Random(11)
        for seed in range(3):
            keeper, plain = Keeper(9), PlainLoft(9)
            states = {"": loft_state(keeper.kept_loft())}
            for _ in range(60):
                deeds = [deed_of(chance, plain, 9) for _ in range(chance.choice((1, 1, 1, 2, 5)))]
                deeds = [(word, *things) for word, things in deeds if word != "exchange"]
                try:
                    if len(deeds) == 1:
                        keeper.do(deeds[0])
                    elif deeds:
                        keeper.do_together(deeds)
                    # Just to make likely deeds: the plain one follows, as far as it can.
                    for word, *things in deeds:
                        getattr(plain, word)(*things)
                except LoftError:
                    continue
                states[keeper.log()] = loft_state(keeper.kept_loft())
            log = keeper.log()
            self.assertGreater(len(states), 15)
            for end in chance.sample(range(len(log) + 1), 60) + [len(log)]:
                left = max((text for text in states if log[:end].startswith(text)), key=len)
                again = come_up(9, log[:end])
                self.assertEqual((again.log(), loft_state(again.kept_loft())), (left, states[left]))


class TestNoLog(Case):
    def none(self, at, *rows, room=9):
        """Refused so, also with something cut behind it."""
        for tail in ("", "ma", "make z", "begin", "nonsense"):
            self.refused(NoLog, [at], come_up, room, text_of(*rows) + tail)

    def test_one_line_feed(self):
        self.none(0, "")
        self.refused(NoLog, [0], come_up, 9, "\n")
        self.none(1, "make a", "")
        self.none(1, "make a", "", "make b")

    def test_no_deeds_text(self):
        for row in ("", " ", "make", "make A", "make a ", " make a", "make  a", "nonsense", "read a 0 1", "names",
                    "log", "Begin", "END",
                    "begin ", " end", "write a 0", "resize a 01", "resize a " + "9" * 5000, "merge 121", "lay s ;",
                    "exchange 0 0", "-"):
            self.assertIsNone(PATTERN.fullmatch(row))
            self.none(0, row)
            self.none(2, "make a", "make b", row, "make c")
            # Within begin and end, whether the end comes or not.
            self.none(3, "make a", "begin", "make b", row)
            self.none(3, "make a", "begin", "make b", row, "end")

    def test_a_begin_row_within_begin_and_end(self):
        self.none(1, "begin", "begin")
        self.none(2, "begin", "make a", "begin")
        self.none(2, "begin", "make a", "begin", "make b", "end", "end")
        self.none(5, "begin", "make a", "end", "begin", "make b", "begin")

    def test_an_end_row_without_begin(self):
        self.none(0, "end")
        self.none(1, "make a", "end")
        self.none(3, "begin", "make a", "end", "end")

    def test_an_end_row_right_behind_begin(self):
        self.none(1, "begin", "end")
        self.none(2, "make a", "begin", "end", "make b")
        self.none(4, "begin", "make a", "end", "begin", "end")

    def test_a_thirteenth_deed(self):
        self.none(13, "begin", *["merge 0"] * 13, "end")
        self.none(13, "begin", *["merge 0"] * 13)
        self.none(14, "make a", "begin", *["merge 0"] * 14, "end")
        self.none(13, "begin", *["merge 0"] * 12, "nonsense")
        self.none(13, "begin", *["merge 0"] * 12, "begin")

    def test_also_of_those_that_are_left_aside(self):
        self.none(2, "make a", "begin", "nonsense")
        self.none(3, "make a", "begin", "make b", "begin")
        # What is left aside need not be done, but be written right.
        self.assertEqual(come_up(9, text_of("make a", "begin", "drop x", "make a")).log(), "make a\n")

    def test_the_first_whose_deed_is_refused(self):
        self.none(0, "drop a")
        self.none(1, "make a", "make a")
        self.none(1, "make a", "drop b", "drop c")
        self.none(3, "make a", "begin", "make b", "make b", "end")
        self.none(2, "make a", "begin", "drop b", "make c", "end")
        self.none(4, "begin", "make a", "end", "begin", "make a", "end")
        self.none(1, "make a", "lay s", "make b")
        self.none(1, "make a", "lay - ; gone a")
        self.none(2, "make a", "freeze s", "lay s ; file a 1 ; write 1 5")
        self.none(1, "make a", "write a 0 1 2 3", room=2)
        self.none(1, "make a", "part x")
        self.none(1, "make a", "write a 1000000000000 5")

    def test_rows_that_are_none_come_ahead_of_refused_deeds(self):
        self.none(2, "drop a", "make b", "nonsense")
        self.none(1, "drop a", "end")
        self.none(3, "make a", "make a", "begin", "begin")
        self.none(2, "drop a", "begin", "nonsense")
        self.none(0, "drop a", "begin", "make b")
        self.none(14, "drop a", "begin", *["merge 0"] * 13)

    def test_behind_a_refused_one_nothing_is_kept(self):
        with self.assertRaises(NoLog):
            come_up(9, text_of("make a", "make a"))
        self.assertEqual(come_up(9, text_of("make a")).kept_loft().names(""), ["a"])


class TestWrong(Case):
    def test_each_argument(self):
        no_texts = [thing for thing in no_wholes() if not isinstance(thing, str)] + [0, 1, -1, ["make a\n"],
                                                                                     ("make a\n",), b"make a\n"]
        for text in ("", "make a\n", "nonsense\n", "\n"):
            self.wrong_in_each_way(come_up, [9, text], [no_rooms(), no_texts])
        for room in (1, 120):
            self.wrong_in_each_way(come_up, [room, ""], [no_rooms(), no_texts])

    def test_rooms_that_are_some(self):
        for room in (1, 2, 119, 120):
            self.assertEqual(come_up(room, "make a\n").kept_loft().left(), room)


if __name__ == "__main__":
    unittest.main()
