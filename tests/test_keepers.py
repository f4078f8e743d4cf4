"""Point 50: keepers, their lofts and their logs."""

import unittest

from lentloft.errors import NoFile, NoLabel, NoParcel, NoRoom, There, TooMany
from lentloft.logs import Keeper
from lentloft.loft import Loft
from tests.cases import Case, loft_state
from tests.samples import no_rooms

TOGETHER = [("make", "b"), ("write", "b", 0, [7, 7]), ("freeze", "s"), ("merge", 9), ("part", "b"),
            ("twin", "s", "b", "c")]


def all_of(keeper):
    """All that a keeper tells."""
    return keeper.log(), loft_state(keeper.kept_loft()), loft_state(keeper.loft())


def keeper_with(room, *deeds):
    keeper = Keeper(room)
    for deed in deeds:
        keeper.do(deed)
    return keeper


class TestDo(Case):
    def test_a_new_one(self):
        for room in (1, 2, 119, 120):
            keeper = Keeper(room)
            self.assertEqual((keeper.log(), loft_state(keeper.kept_loft())), ("", loft_state(Loft(room))))
            self.assertIs(type(keeper.kept_loft()), Loft)
            self.assertIs(type(keeper.loft()), Loft)

    def test_rooms_that_are_none(self):
        for thing in no_rooms():
            self.wrong(0, Keeper, thing)

    def test_each_deed_is_a_row_of_the_log(self):
        keeper, loft, log = Keeper(20), Loft(20), ""
        rows = [("file", "a", 3), ("lend", 0, 3, "a", 0)]
        deeds = (
            (("make", "a"), "make a"), (("write", "a", 0, [1, 1, 2]), "write a 0 1 1 2"), (("freeze", "s"), "freeze s"),
            (("merge", 5), "merge 5"), (("part", "a"), "part a"), (("twin", "s", "a", "b"), "twin s/a b"),
            (("lend", "", "a", 0, 1, "b", 5), "lend a 0 1 b 5"), (("hole", "b", 0, 1), "hole b 0 1"),
            (("resize", "b", 9), "resize b 9"), (("drop", "b"), "drop b"), (("back", "s"), "back s"),
            (("lay", "s", rows), "lay s ; file a 3 ; lend 0 3 a 0"), (("forget", "s"), "forget s"),
        )
        told = []
        for deed, text in deeds:
            told.append(keeper.do(deed))
            log += text + "\n"
            self.assertEqual(keeper.log(), log)
            self.rule_of_holding(keeper.kept_loft())
            self.assertEqual(loft_state(keeper.kept_loft()), loft_state(keeper.loft()))
        self.assertEqual(told, [None] * 3 + [1, 3] + [None] * 8)
        self.assertEqual(keeper.kept_loft().read("", "a", 0, 9), [1, 1, 2])
        self.assertEqual(loft.kept(), [])

    def test_what_is_refused_is_not_written(self):
        keeper = keeper_with(2, ("make", "a"), ("write", "a", 0, [1, 2]))
        before = all_of(keeper)
        for kind, fields, deed in (
            (There, ["a"], ("make", "a")), (NoRoom, [], ("write", "a", 2, [1])), (NoFile, ["x"], ("part", "x")),
            (NoLabel, ["s"], ("back", "s")), (NoParcel, [0], ("lay", None, [("gone", "a")])),
        ):
            self.refused(kind, fields, keeper.do, deed)
            self.assertEqual(all_of(keeper), before)
        keeper.do(("drop", "a"))
        self.assertEqual(keeper.log(), before[0] + "drop a\n")


class TestTogether(Case):
    def test_all_are_done_and_written(self):
        one, other = keeper_with(20, ("make", "a")), keeper_with(20, ("make", "a"))
        told = one.do_together(TOGETHER)
        self.assertEqual(told, [other.do(deed) for deed in TOGETHER])
        self.assertEqual(told, [None, None, None, 1, 2, None])
        self.assertIs(type(told), list)
        self.assertEqual(loft_state(one.kept_loft()), loft_state(other.kept_loft()))
        self.assertEqual(loft_state(one.loft()), loft_state(other.kept_loft()))
        rows = ["make a", "begin", "make b", "write b 0 7 7", "freeze s", "merge 9", "part b", "twin s/b c", "end"]
        self.assertEqual(one.log(), "".join(row + "\n" for row in rows))

    def test_one_to_twelve(self):
        deeds = [("make", "a")] + [("write", "a", k, [k]) for k in range(11)]
        for many in range(1, 13):
            keeper = Keeper(20)
            self.assertEqual(keeper.do_together(deeds[:many]), [None] * many)
            rows = ["begin", "make a"] + [f"write a {k} {k}" for k in range(many - 1)] + ["end"]
            self.assertEqual(keeper.log(), "".join(row + "\n" for row in rows))
            self.assertEqual(keeper.kept_loft().read("", "a", 0, 60), list(range(many - 1)))

    def test_where_one_is_refused_none_is_done(self):
        refused = (
            (There, ["a"], ("make", "a")), (NoFile, ["x"], ("drop", "x")), (NoLabel, ["t"], ("forget", "t")),
            (NoRoom, [], ("write", "a", 0, [1] * 24)), (NoParcel, [0], ("lay", None, [()])),
        )
        for kind, fields, deed in refused:
            for at in range(len(TOGETHER) + 1):
                keeper = keeper_with(20, ("make", "a"), ("write", "a", 0, [5]))
                before = all_of(keeper)
                self.refused(kind, fields, keeper.do_together, TOGETHER[:at] + [deed] + TOGETHER[at:])
                self.assertEqual(all_of(keeper), before)
                self.assertEqual(keeper.do_together(TOGETHER), [None, None, None, 1, 2, None])

    def test_the_first_that_is_refused(self):
        keeper = Keeper(9)
        self.refused(NoFile, ["x"], keeper.do_together, [("drop", "x"), ("drop", "y")])
        self.refused(NoFile, ["y"], keeper.do_together, [("make", "x"), ("drop", "y"), ("make", "x")])
        self.refused(There, ["x"], keeper.do_together, [("make", "x"), ("make", "x"), ("drop", "y")])

    def test_one_builds_on_the_one_ahead(self):
        keeper = Keeper(1)
        keeper.do_together([("make", "a"), ("write", "a", 0, [1]), ("write", "a", 0, [2]), ("hole", "a", 0, 1),
                            ("write", "a", 4, [3])])
        self.assertEqual(keeper.kept_loft().read("", "a", 0, 9), [0, 0, 0, 0, 3])
        # Room is wanted behind each of them, not in the end alone.
        self.refused(NoRoom, [], keeper.do_together, [("write", "a", 0, [4]), ("hole", "a", 4, 1)])
        keeper.do_together([("hole", "a", 4, 1), ("write", "a", 0, [4])])

    def test_too_many_files_amid_them(self):
        keeper = Keeper(1)
        makes = [("make", name) for name in "abcdefg"]
        self.refused(TooMany, [6], keeper.do_together, makes + [("drop", "a")])
        self.assertEqual((keeper.log(), keeper.kept_loft().names("")), ("", []))
        keeper.do_together(makes[:6] + [("drop", "a")] + makes[6:])
        self.assertEqual(keeper.kept_loft().names(""), list("bcdefg"))


class TestLofts(Case):
    def test_the_copied_loft_goes_on_by_itself(self):
        keeper = keeper_with(9, ("make", "a"), ("write", "a", 0, [1, 2]), ("freeze", "s"))
        before = all_of(keeper)
        copy = keeper.loft()
        copy.write("a", 0, [5])
        copy.forget("s")
        copy.drop("a")
        self.assertEqual(all_of(keeper), before)
        copy = keeper.loft()
        state = loft_state(copy)
        keeper.do(("drop", "a"))
        keeper.do_together([("forget", "s"), ("make", "b")])
        self.assertEqual(loft_state(copy), state)

    def test_the_kept_loft_is_told_anew_behind_each_deed(self):
        keeper = Keeper(9)
        keeper.do(("make", "a"))
        self.assertEqual(keeper.kept_loft().names(""), ["a"])
        keeper.do_together([("make", "b"), ("drop", "a")])
        self.assertEqual(keeper.kept_loft().names(""), ["b"])
        with self.assertRaises(NoFile):
            keeper.do_together([("make", "c"), ("drop", "a")])
        self.assertEqual(keeper.kept_loft().names(""), ["b"])
        keeper.do(("make", "d"))
        self.assertEqual(keeper.kept_loft().names(""), ["b", "d"])

    def test_two_keepers_know_nothing_of_one_another(self):
        one, other = Keeper(3), Keeper(5)
        one.do(("make", "a"))
        other.do_together([("make", "b"), ("freeze", "s")])
        self.assertEqual((one.log(), other.log()), ("make a\n", "begin\nmake b\nfreeze s\nend\n"))
        self.assertEqual((one.kept_loft().names(""), other.kept_loft().names("")), (["a"], ["b"]))


class TestHandedIn(Case):
    def test_contents_rows_and_deeds_stay_in_the_log_too(self):
        keeper = Keeper(20)
        contents, inner = [1, 2], [5, 6]
        rows = [("file", "b", 3), ("write", 0, inner)]
        deeds = [("make", "a"), ("write", "a", 0, contents), ("lay", None, rows)]
        keeper.do_together(deeds)
        keeper.do(("lay", None, rows))
        keeper.do(("write", "b", 0, contents))
        log, state = keeper.log(), loft_state(keeper.kept_loft())
        self.assertEqual(deeds, [("make", "a"), ("write", "a", 0, [1, 2]),
                                 ("lay", None, [("file", "b", 3), ("write", 0, [5, 6])])])
        contents[0] = 9
        inner.append(7)
        rows.clear()
        deeds.clear()
        self.assertEqual((keeper.log(), loft_state(keeper.kept_loft())), (log, state))
        laid = "lay - ; file b 3 ; write 0 5 6\n"
        self.assertEqual(log, f"begin\nmake a\nwrite a 0 1 2\n{laid}end\n{laid}write b 0 1 2\n")

    def test_what_is_told_is_the_askers_own(self):
        keeper = Keeper(20)
        told = keeper.do_together([("make", "a"), ("merge", 1)])
        told.append(5)
        self.assertEqual(keeper.do_together([("merge", 1)]), [0])
        self.assertEqual(keeper.log(), "begin\nmake a\nmerge 1\nend\nbegin\nmerge 1\nend\n")


if __name__ == "__main__":
    unittest.main()
