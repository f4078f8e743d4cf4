"""Point 32: what a loft refuses, in the told order."""

import unittest

from lentloft.errors import NoFile, NoGrain, NoLabel, NoPlace, NoRoom, There, TooFull, TooMany, Unlike, Wrong
from lentloft.loft import Loft
from tests.cases import TOP, Case, loft_state, loft_with


class TestNoLabel(Case):
    def test_where_a_label_is_looked_for(self):
        loft = loft_with(5, a=[1])
        loft.freeze("s")
        asked = (
            ("names",), ("size", "a"), ("read", "a", 0, 1), ("held", "a"), ("pieces", "a"), ("lend", "a", 0, 1, "a", 0),
            ("twin", "a", "b"), ("forget",), ("back",),
        )
        for method, *things in asked:
            for label in ("t", "a", "ss", "sssssssss"[:8]):
                self.unchanged(loft, NoLabel, [label], method, label, *things)

    def test_behind_forgetting_it(self):
        loft = loft_with(5, a=[1])
        loft.freeze("s")
        loft.forget("s")
        for method, *things in (("names",), ("size", "a"), ("forget",), ("back",)):
            self.unchanged(loft, NoLabel, ["s"], method, "s", *things)

    def test_ahead_of_all_that_comes_later(self):
        loft = loft_with(1, a=[1], b=[], c=[], d=[], e=[], f=[])
        self.unchanged(loft, NoLabel, ["s"], "size", "s", "nofile")
        self.unchanged(loft, NoLabel, ["s"], "lend", "s", "nofile", 0, 1, "nofile", 0)
        self.unchanged(loft, NoLabel, ["s"], "lend", "s", "a", 5, 1, "nofile", TOP)
        self.unchanged(loft, NoLabel, ["s"], "twin", "s", "nofile", "a")
        self.unchanged(loft, NoLabel, ["s"], "twin", "s", "a", "g")


class TestNoFile(Case):
    def test_where_a_file_is_looked_for(self):
        loft = loft_with(5, a=[1], b=[])
        loft.freeze("s")
        loft.drop("b")
        loft.make("c")
        for where, names in (("", ("b", "s", "aa")), ("s", ("c", "s", "aa"))):
            for name in names:
                for method, *things in (("size",), ("read", 0, 1), ("held",), ("pieces",), ("twin", "d")):
                    self.unchanged(loft, NoFile, [name], method, where, name, *things)
                self.unchanged(loft, NoFile, [name], "lend", where, name, 0, 1, "a", 0)
        for method, *things in (("drop",), ("resize", 1), ("write", 0, [1]), ("hole", 0, 1)):
            self.unchanged(loft, NoFile, ["b"], method, "b", *things)
        self.unchanged(loft, NoFile, ["b"], "lend", "", "a", 0, 1, "b", 0)
        self.unchanged(loft, NoFile, ["b"], "lend", "s", "a", 0, 1, "b", 0)

    def test_of_lend_first_the_one_that_is_lent_out_of(self):
        loft = loft_with(5, a=[1])
        self.unchanged(loft, NoFile, ["x"], "lend", "", "x", 0, 1, "y", 0)
        self.unchanged(loft, NoFile, ["y"], "lend", "", "a", 0, 1, "y", 0)
        self.unchanged(loft, NoFile, ["x"], "lend", "", "x", 0, 1, "a", 0)

    def test_ahead_of_all_that_comes_later(self):
        loft = loft_with(1, a=[1], b=[], c=[], d=[], e=[], f=[])
        self.unchanged(loft, NoFile, ["x"], "twin", "", "x", "a")
        self.unchanged(loft, NoFile, ["x"], "twin", "", "x", "g")
        self.unchanged(loft, NoFile, ["x"], "write", "x", TOP, [1, 2])
        self.unchanged(loft, NoFile, ["x"], "lend", "", "a", 9, 9, "x", TOP)

    def test_a_dropped_one(self):
        loft = loft_with(1, a=[1])
        loft.drop("a")
        for method, *things in (("drop",), ("resize", 1), ("write", 0, [1]), ("hole", 0, 1)):
            self.unchanged(loft, NoFile, ["a"], method, "a", *things)


class TestThereAndTooMany(Case):
    def test_there(self):
        loft = loft_with(5, a=[1], b=[])
        loft.freeze("s")
        self.unchanged(loft, There, ["a"], "make", "a")
        self.unchanged(loft, There, ["b"], "twin", "", "a", "b")
        self.unchanged(loft, There, ["a"], "twin", "", "a", "a")
        self.unchanged(loft, There, ["b"], "twin", "s", "a", "b")
        self.unchanged(loft, There, ["s"], "freeze", "s")

    def test_a_seventh_living_file(self):
        loft = loft_with(5, **{name: [] for name in "abcdef"})
        loft.freeze("s")
        self.unchanged(loft, TooMany, [6], "make", "g")
        self.unchanged(loft, TooMany, [6], "twin", "", "a", "g")
        self.unchanged(loft, TooMany, [6], "twin", "s", "a", "g")
        self.unchanged(loft, There, ["a"], "make", "a")
        self.unchanged(loft, There, ["b"], "twin", "", "a", "b")
        loft.drop("c")
        loft.make("g")
        self.unchanged(loft, TooMany, [6], "make", "c")

    def test_a_sixth_label(self):
        loft = loft_with(5, a=[1])
        for label in "stuvw":
            loft.freeze(label)
        self.unchanged(loft, TooMany, [5], "freeze", "x")
        for label in "stuvw":
            self.unchanged(loft, There, [label], "freeze", label)
        loft.forget("u")
        loft.freeze("x")
        self.unchanged(loft, TooMany, [5], "freeze", "u")


class TestWhatFilesAndLendingRefuse(Case):
    def test_write(self):
        loft = loft_with(60, a=[1] * 59, b=[])
        self.unchanged(loft, NoPlace, [TOP], "write", "a", TOP, [1])
        self.unchanged(loft, NoPlace, [TOP - 1], "write", "a", TOP - 1, [1, 2])
        self.unchanged(loft, TooFull, [], "write", "a", 59, [1, 2])
        self.unchanged(loft, TooFull, [], "write", "a", 100, [1, 2])
        self.unchanged(loft, NoRoom, [], "write", "b", 0, [1, 2])
        loft.write("a", 100, [2])
        self.unchanged(loft, NoPlace, [TOP], "write", "a", TOP, [1])
        self.unchanged(loft, TooFull, [], "write", "a", 60, [1])
        self.unchanged(loft, NoRoom, [], "write", "b", 0, [1])

    def test_lend(self):
        loft = loft_with(61, a=[1] * 60, b=[2])
        loft.freeze("s")
        for where in ("", "s"):
            self.unchanged(loft, NoPlace, [60], "lend", where, "a", 60, 1, "b", 0)
            self.unchanged(loft, NoPlace, [0], "lend", where, "a", 0, 61, "b", 0)
            self.unchanged(loft, NoPlace, [1], "lend", where, "a", 1, TOP, "b", TOP)
            self.unchanged(loft, NoPlace, [TOP], "lend", where, "a", 0, 1, "b", TOP)
            self.unchanged(loft, NoPlace, [TOP - 59], "lend", where, "a", 0, 60, "b", TOP - 59)
            self.unchanged(loft, TooFull, [], "lend", where, "a", 0, 60, "b", 1)
        loft.lend("", "a", 0, 60, "b", 0)

    def test_a_write_of_a_room_for_one(self):
        loft = loft_with(1, a=[])
        self.unchanged(loft, NoRoom, [], "write", "a", 0, [1, 2])
        loft.write("a", 0, [1])
        self.unchanged(loft, NoRoom, [], "write", "a", 1, [1])


class TestGrains(Case):
    def test_content_of_and_holds(self):
        loft = loft_with(3, a=[1, 2])
        for grain in (2, 3, 120, TOP, 10 ** 5000):
            self.unchanged(loft, NoGrain, [grain], "content_of", grain)
            self.unchanged(loft, NoGrain, [grain], "holds", grain)
        loft.hole("a", 0, 1)
        self.unchanged(loft, NoGrain, [0], "content_of", 0)
        self.unchanged(loft, NoGrain, [0], "holds", 0)

    def test_exchange(self):
        loft = loft_with(4, a=[1, 2, 1])
        self.unchanged(loft, NoGrain, [3], "exchange", 3, 4)
        self.unchanged(loft, NoGrain, [4], "exchange", 4, 3)
        self.unchanged(loft, NoGrain, [3], "exchange", 3, 0)
        self.unchanged(loft, NoGrain, [3], "exchange", 0, 3)
        self.unchanged(loft, NoGrain, [3], "exchange", 3, 3)
        self.unchanged(loft, Unlike, [], "exchange", 0, 1)
        self.unchanged(loft, Unlike, [], "exchange", 1, 2)
        loft.exchange(0, 2)
        self.unchanged(loft, NoGrain, [0], "exchange", 0, 2)
        self.unchanged(loft, NoGrain, [0], "exchange", 2, 0)


class TestBehindARefusal(Case):
    def test_what_is_good_is_taken(self):
        loft = Loft(2)
        refused = (
            (Wrong, [0], "make", ""), (NoFile, ["a"], "drop", "a"), (NoLabel, ["s"], "back", "s"),
            (NoGrain, [0], "exchange", 0, 0), (Wrong, [2], "write", "a", 0, []), (NoLabel, ["s"], "forget", "s"),
        )
        for kind, fields, method, *things in refused:
            self.unchanged(loft, kind, fields, method, *things)
        loft.make("a")
        loft.write("a", 0, [1, 1])
        for kind, fields, method, *things in refused[2:3] + refused[4:]:
            self.unchanged(loft, kind, fields, method, *things)
        self.unchanged(loft, NoRoom, [], "write", "a", 1, [1, 2])
        loft.exchange(1, 0)
        loft.write("a", 2, [1])
        loft.freeze("s")
        self.unchanged(loft, There, ["s"], "freeze", "s")
        loft.back("s")
        self.assertEqual(loft.read("", "a", 0, 9), [1, 1, 1])
        self.assertEqual(loft_state(loft)[0], ["s", ""])


if __name__ == "__main__":
    unittest.main()
