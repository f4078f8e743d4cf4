"""Points 52, 53: the desk, its rows and its answers."""

import unittest

from lentloft.desk import Desk
from lentloft.errors import NoFile, NoLabel, NoPlace, NoRoom, NoRow, There, TooFull, TooMany
from tests.cases import TOP, Case
from tests.samples import Stranger, no_wholes

QUESTIONS = ("read a 0 9", "size a", "pieces a", "names", "labels", "kept", "owes even", "parcel - s", "log")


def asked(desk):
    """All that a desk tells of itself, but while rows are gathered."""
    names = desk.say("names").replace("none", "").split()
    told = [desk.say(row) for row in ("names", "labels", "kept", "log", "owes even", "owes places")]
    for name in names:
        told += [desk.say(f"size {name}"), desk.say(f"pieces {name}"), desk.say(f"read {name} 0 60")]
    return told


def desk_with(*rows):
    desk = Desk()
    for row in rows:
        desk.say(row)
    return desk


class DeskCase(Case):
    def says(self, desk, *pairs):
        """Rows beside their very answers."""
        for row, answer in pairs:
            told = desk.say(row)
            self.assertEqual((row, told), (row, answer))
            self.assertIs(type(told), str)

    def no_row(self, desk, *rows):
        for row in rows:
            self.refused(NoRow, [], desk.say, row)


class TestDeeds(DeskCase):
    def test_each_kind(self):
        self.says(
            Desk(), ("make a", "ok"), ("write a 0 5 5 6", "ok"), ("read a 0 9", "5 5 6"), ("freeze s", "ok"),
            ("merge 9", "1"),
            ("merge 9", "0"), ("part a", "3"), ("part a", "0"), ("lend s/a 0 3 a 7", "ok"),
            ("read a 0 60", "5 5 6 0 0 0 0 5 5 6"),
            ("twin s/a b", "ok"), ("twin a c", "ok"), ("names", "a b c"), ("lend b 0 1 b 5", "ok"),
            ("hole b 0 1", "ok"),
            ("read b 0 9", "0 5 6 0 0 5"), ("resize b 2", "ok"), ("size b", "2"), ("drop c", "ok"), ("names", "a b"),
            ("back s", "ok"), ("names", "a"), ("forget s", "ok"), ("labels", "none"), ("kept", "2"),
        )

    def test_a_desk_has_room_for_120(self):
        desk = desk_with("make a", "make b")
        row = " ".join(["7"] * 20)
        for name in "ab":
            for at in (0, 20, 40):
                self.says(desk, (f"write {name} {at} {row}", "ok"))
        self.says(desk, ("kept", "120"), ("make c", "ok"))
        self.refused(NoRoom, [], desk.say, "write c 0 1")
        self.says(desk, ("merge 120", "119"), ("write c 0 1", "ok"), ("kept", "2"))

    def test_what_is_refused_there_is_refused_so(self):
        desk = desk_with("make a", "write a 0 1 2", "freeze s")
        before = asked(desk)
        for kind, fields, row in (
            (There, ["a"], "make a"), (NoFile, ["x"], "drop x"), (NoFile, ["x"], "resize x 0"),
            (NoPlace, [TOP], f"write a {TOP} 1"),
            (NoFile, ["x"], "hole x 0 1"), (NoLabel, ["t"], "lend t/x 0 1 y 0"), (NoFile, ["x"], "lend s/x 0 1 y 0"),
            (NoFile, ["y"], "lend s/a 0 1 y 0"), (NoPlace, [2], "lend a 2 1 a 0"), (There, ["a"], "twin s/a a"),
            (There, ["s"], "freeze s"),
            (NoLabel, ["t"], "forget t"), (NoLabel, ["t"], "back t"), (NoFile, ["x"], "part x"),
            (NoFile, ["x"], "size x"), (NoLabel, ["t"], "size t/a"), (NoFile, ["x"], "read x 0 1"),
            (NoFile, ["x"], "read s/x 0 1"),
            (NoLabel, ["t"], "read t/a 0 1"), (NoFile, ["x"], "pieces x"), (NoLabel, ["t"], "pieces t/x"),
            (NoLabel, ["t"], "parcel t u"),
            (NoLabel, ["u"], "parcel s u"), (NoLabel, ["u"], "parcel - u"), (NoLabel, ["a"], "parcel a s"),
        ):
            self.refused(kind, fields, desk.say, row)
            self.assertEqual(asked(desk), before)
        full = " ".join(["1"] * 24)
        desk = desk_with("make a", f"write a 0 {full}", f"write a 24 {full}")
        self.refused(TooFull, [], desk.say, f"write a 48 {full}")
        for name in "bcdef":
            desk.say(f"make {name}")
        self.refused(TooMany, [6], desk.say, "make g")


class TestQuestions(DeskCase):
    def test_read(self):
        desk = desk_with("make a", f"write a 3 0 7 {10 ** 9}", "freeze s", "write a 4 8", "make b")
        self.says(
            desk, ("read a 0 60", f"0 0 0 0 8 {10 ** 9}"), ("read s/a 0 60", f"0 0 0 0 7 {10 ** 9}"),
            ("read a 4 1", "8"),
            ("read a 0 0", "none"), ("read a 6 1", "none"), (f"read a {TOP} 60", "none"), ("read b 0 60", "none"),
            ("read a 2 1", "0"),
        )

    def test_size(self):
        desk = desk_with("make a", f"resize a {TOP}", "freeze s", "resize a 3", "make b")
        self.says(desk, ("size a", "3"), ("size s/a", "1000000000000"), ("size b", "0"))

    def test_pieces(self):
        desk = desk_with("make a", "write a 3 1 2", "write a 7 3", "freeze s", "hole a 0 9", "make b",
                         "lend s/a 4 1 b 0")
        self.says(
            desk, ("pieces s/a", "3 2 0, 7 1 2"), ("pieces a", "none"), ("pieces b", "0 1 1"),
        )

    def test_names_and_labels(self):
        desk = Desk()
        self.says(
            desk, ("names", "none"), ("labels", "none"), ("make b", "ok"), ("names", "b"), ("make a", "ok"),
            ("names", "a b"),
            ("freeze t", "ok"), ("labels", "t"), ("freeze s", "ok"), ("labels", "t s"), ("forget t", "ok"),
            ("freeze t", "ok"),
            ("labels", "s t"), ("drop a", "ok"), ("drop b", "ok"), ("names", "none"),
        )

    def test_kept(self):
        self.says(
            Desk(), ("kept", "0"), ("make a", "ok"), ("write a 0 5 5", "ok"), ("kept", "2"), ("merge 1", "1"),
            ("kept", "1"),
            ("freeze s", "ok"), ("drop a", "ok"), ("kept", "1"), ("forget s", "ok"), ("kept", "0"),
        )

    def test_owes(self):
        desk = Desk()
        for rule in ("alone", "eldest", "even", "places"):
            self.says(desk, (f"owes {rule}", "none"))
        for row in ("make b", "write b 0 1 2", "make a", "lend b 0 1 a 0", "lend b 0 1 a 3", "freeze s", "drop a"):
            desk.say(row)
        self.says(
            desk, ("owes alone", "s/a 0/1, s/b 0/1, b 0/1"), ("owes eldest", "s/a 1/1, s/b 1/1, b 0/1"),
            ("owes even", "s/a 1/3, s/b 5/6, b 5/6"), ("owes places", "s/a 1/2, s/b 3/4, b 3/4"), ("forget s", "ok"),
            ("owes alone", "b 2/1"), ("drop b", "ok"), ("owes alone", "none"),
        )

    def test_parcel(self):
        desk = desk_with("freeze e", "make a", "make c", "write a 0 1 2 3", "freeze s", "drop c", "make b",
                         "lend a 0 3 b 2",
                         "write b 1 8 9", "lend b 1 2 b 7", "freeze t")
        self.says(
            desk, ("parcel - e", "none"), ("parcel e e", "none"), ("parcel s e", "gone a, gone c"),
            ("parcel - s", "file a 3, write 0 1 2 3, file c 0"),
            ("parcel s t", "gone c, file a 3, lend 0 3 a 0, file b 9, write 1 8 9, lend 3 2 a 1, again 7 2 b 1"),
            ("parcel s s", "file a 3, lend 0 3 a 0, file c 0"),
        )

    def test_log(self):
        desk = Desk()
        self.says(desk, ("log", ""), ("make a", "ok"), ("log", "make a\n"), ("names", "a"), ("log", "make a\n"))
        with self.assertRaises(There):
            desk.say("make a")
        self.says(
            desk, ("begin", ".."), ("merge 0", ".."), ("part a", ".."), ("end", "ok"), ("merge 0", "0"),
            ("log", "make a\nbegin\nmerge 0\npart a\nend\nmerge 0\n"),
        )


class TestTogether(DeskCase):
    def test_gathered_and_done_at_the_end(self):
        desk = Desk()
        self.says(desk, ("begin", ".."), ("make a", ".."), ("write a 0 5 5", ".."), ("merge 3", ".."), ("part a", ".."),
                  ("end", "ok"))
        self.says(desk, ("read a 0 9", "5 5"), ("log", "begin\nmake a\nwrite a 0 5 5\nmerge 3\npart a\nend\n"),
                  ("make b", "ok"))

    def test_one_to_twelve(self):
        for many in range(1, 13):
            desk = Desk()
            self.says(desk, ("begin", ".."), *[("merge 0", "..")] * many, ("end", "ok"),
                      ("log", "begin\n" + "merge 0\n" * many + "end\n"))

    def test_several_times(self):
        desk = Desk()
        for name in "abc":
            self.says(desk, ("begin", ".."), (f"make {name}", ".."), ("end", "ok"))
        self.says(desk, ("names", "a b c"))

    def test_a_refused_end_forgets_what_was_gathered(self):
        desk = desk_with("make a", "write a 0 1")
        before = asked(desk)
        for row, kind, fields in (("make a", There, ["a"]), ("drop x", NoFile, ["x"]), ("back s", NoLabel, ["s"])):
            self.says(desk, ("begin", ".."), ("make b", ".."), (row, ".."), ("make c", ".."))
            self.refused(kind, fields, desk.say, "end")
            # Behind it none are gathered any more.
            self.assertEqual(asked(desk), before)
            self.no_row(desk, "end")
        self.says(desk, ("make d", "ok"), ("names", "a d"), ("begin", ".."), ("drop d", ".."), ("end", "ok"),
                  ("names", "a"))


class TestNoRow(DeskCase):
    ROWS = (
        "", " ", "\n", "make", "make A", "make a b", " make a", "make a ", "make  a", "make a\n", "Make a", "nonsense",
        "-", "..", "ok",
        "names ", " names", "names a", "names s", "labels a", "kept 1", "kept a", "log a", "log ", "size", "size A",
        "size a b", "size a 1",
        "size s/a/b", "size /a", "size a/", "size -", "pieces", "pieces a b", "pieces 1", "read a", "read a 0",
        "read a 0 1 2",
        "read a 00 1", "read a 0 01", "read a 0 61", "read a 0 600", f"read a {TOP + 1} 1", "read a -1 1",
        "read a 0 -1", "read 0 1",
        "read A 0 1", "read a b c", "read a " + "9" * 5000 + " 1", "read a 0 " + "9" * 5000, "owes", "owes all",
        "owes Even", "owes even b",
        "owes none", "owes alone ", "owes 1", "parcel", "parcel -", "parcel s", "parcel - -", "parcel s -",
        "parcel -- s", "parcel - s t",
        "parcel s t u", "parcel - S", "parcel s/a t", "exchange 0 0", "holders 0", "freed", "common", "left", "held a",
        "begin ", "end ",
        "begin a", "Begin", "resize a 01", "write a 0", "write a 0" + " 1" * 25, "merge 121", "lend a 0 0 a 0",
        "hole a 0", "names\nlabels",
        "lay -", "lay s", "lay - ; file a 1", "lay s ; gone a", "lay", "lay s ;", "gone a", "file a 1",
    )

    def test_what_is_no_row(self):
        desk = desk_with("make a", "write a 0 1", "freeze s")
        before = asked(desk)
        self.no_row(desk, *self.ROWS)
        self.no_row(desk, *[thing for thing in no_wholes() if not isinstance(thing, str)])
        self.no_row(desk, 0, 1, 10 ** 5000, ["names"], ("names",), b"names", Stranger())
        self.no_row(desk, "end")
        self.assertEqual(asked(desk), before)

    def test_ahead_of_all_else(self):
        # What would be refused otherwise is no row at first.
        self.no_row(Desk(), "read x 0 61", "read t/x 0 01", "parcel x", "owes x", "lend t/x 0 0 y 0", "drop x y",
                    "lay t")

    def test_while_rows_are_gathered(self):
        desk = desk_with("make a", "write a 0 1", "freeze s")
        log = desk.say("log")
        self.says(desk, ("begin", ".."))
        # An end right behind begin, and whatever is no deed.
        self.no_row(desk, "end", "begin", *self.ROWS, *QUESTIONS, None, 5)
        self.says(desk, ("make b", ".."))
        self.no_row(desk, "begin", *self.ROWS, *QUESTIONS, None, 5)
        self.says(desk, ("write b 0 7", ".."), ("end", "ok"), ("names", "a b"), ("read b 0 5", "7"))
        self.says(desk, ("log", log + "begin\nmake b\nwrite b 0 7\nend\n"))

    def test_an_end_right_behind_begin_leaves_begin(self):
        desk = desk_with("begin")
        self.no_row(desk, "end", "end")
        self.says(desk, ("make a", ".."), ("end", "ok"), ("names", "a"))

    def test_an_end_without_begin(self):
        desk = Desk()
        self.no_row(desk, "end")
        self.says(desk, ("begin", ".."), ("make a", ".."), ("end", "ok"))
        self.no_row(desk, "end")

    def test_a_thirteenth_deed(self):
        desk = desk_with("begin", *["merge 0"] * 12)
        self.no_row(desk, "merge 0", "make a", "begin", "names", "nonsense")
        self.says(desk, ("end", "ok"), ("log", "begin\n" + "merge 0\n" * 12 + "end\n"), ("merge 0", "0"))

    def test_deeds_that_would_be_refused_are_gathered(self):
        desk = desk_with("begin")
        self.says(desk, ("drop x", ".."), ("back t", ".."))
        self.refused(NoFile, ["x"], desk.say, "end")


class TestTwoDesks(DeskCase):
    def test_by_turns(self):
        one, other = Desk(), Desk()
        self.says(one, ("make a", "ok"), ("begin", ".."), ("make b", ".."))
        self.says(other, ("names", "none"), ("make c", "ok"), ("log", "make c\n"))
        self.no_row(other, "end")
        self.says(other, ("begin", ".."), ("freeze s", ".."))
        self.says(one, ("end", "ok"), ("names", "a b"), ("labels", "none"))
        self.says(other, ("end", "ok"), ("names", "c"), ("labels", "s"), ("log", "make c\nbegin\nfreeze s\nend\n"))
        self.says(one, ("log", "make a\nbegin\nmake b\nend\n"))


if __name__ == "__main__":
    unittest.main()
