"""Point 3 for lofts, what is owed and merging: lists handed in stay, lists told are the asker's own."""

import unittest

from lentloft.loft import Loft
from lentloft.merging import likes
from lentloft.owing import freed_by, holders, owes, owners
from tests.cases import Case, loft_state, loft_with


def spoil(told):
    """Change a list that was told, and the lists within it, in all ways."""
    for each in told:
        if isinstance(each, list):
            spoil(each)
    told.append("x")
    told.reverse()
    told[1:] = []


class TestHandedIn(Case):
    def test_contents_stay_and_what_is_done_to_them_changes_nothing(self):
        loft = loft_with(30, a=[], b=[])
        contents = [5, 6, 7]
        loft.write("a", 0, contents)
        loft.write("b", 0, contents)
        self.assertEqual(contents, [5, 6, 7])
        before = loft_state(loft)
        contents[0] = 9
        contents.append(8)
        self.assertEqual(loft_state(loft), before)
        contents.clear()
        self.assertEqual(loft_state(loft), before)

    def test_contents_of_a_refused_write(self):
        loft = loft_with(1, a=[])
        contents = [5, 6, 7]
        with self.assertRaises(ValueError):
            loft.write("a", 0, contents)
        self.assertEqual(contents, [5, 6, 7])

    def test_owners(self):
        loft = loft_with(3, a=[1], b=[2])
        some = [("", "b"), ("", "a")]
        self.assertEqual(freed_by(loft, some), 2)
        self.assertEqual(some, [("", "b"), ("", "a")])


class TestTold(Case):
    def loft(self):
        loft = loft_with(30, a=[1, 1, None, 2], b=[2, 3])
        loft.freeze("s")
        loft.lend("", "a", 0, 2, "b", 4)
        loft.freeze("t")
        return loft

    def test_each_list_is_the_askers_own(self):
        asks = (
            lambda loft: loft.names(""), lambda loft: loft.names("s"), lambda loft: loft.labels(),
            lambda loft: loft.read("", "a", 0, 9), lambda loft: loft.read("s", "b", 0, 9),
            lambda loft: loft.held("", "b"), lambda loft: loft.held("t", "b"),
            lambda loft: loft.pieces("", "b"), lambda loft: loft.pieces("t", "a"), lambda loft: loft.kept(),
            owners, lambda loft: holders(loft, 0), likes, lambda loft: owes(loft, "alone"),
            lambda loft: owes(loft, "eldest"), lambda loft: owes(loft, "even"), lambda loft: owes(loft, "places"),
        )
        loft = self.loft()
        before = loft_state(loft)
        for ask in asks:
            told, kept = ask(loft), ask(loft)
            self.assertTrue(told)
            self.assertIs(type(told), list)
            self.assertEqual(told, kept)
            spoil(told)
            self.assertNotEqual(told, kept)
            self.assertEqual(ask(loft), kept)
            self.assertEqual(loft_state(loft), before)

    def test_a_list_told_stays_behind_deeds(self):
        loft = self.loft()
        names, labels, pieces, kept = loft.names(""), loft.labels(), loft.pieces("", "a"), loft.kept()
        loft.drop("a")
        loft.forget("s")
        loft.make("zz")
        loft.write("zz", 0, [1] * 9)
        self.assertEqual((names, labels), (["a", "b"], ["s", "t"]))
        self.assertEqual((pieces, kept), ([(0, 2, 0), (3, 1, 2)], [0, 1, 2, 3, 4]))

    def test_kinds_of_what_is_told(self):
        loft = self.loft()
        for piece in loft.pieces("", "a") + loft.pieces("s", "b"):
            self.assertIs(type(piece), tuple)
            self.assertEqual([type(number) for number in piece], [int, int, int])
        self.assertIs(type(loft.size("", "a")), int)
        for where, name, amount in owes(loft, "even"):
            self.assertEqual([type(each) for each in (where, name, amount, *amount)], [str, str, tuple, int, int])


class TestTwoLofts(Case):
    def test_by_turns(self):
        one, other = Loft(3), Loft(5)
        one.make("a")
        other.make("b")
        one.write("a", 0, [1, 2])
        other.write("b", 0, [3])
        one.freeze("s")
        self.assertEqual((other.names(""), other.labels(), other.kept(), other.left()), (["b"], [], [0], 4))
        other.freeze("t")
        one.drop("a")
        one.forget("s")
        self.assertEqual((one.names(""), one.labels(), one.kept(), one.left()), ([], [], [], 3))
        self.assertEqual((other.labels(), other.read("t", "b", 0, 9)), (["t"], [3]))


if __name__ == "__main__":
    unittest.main()
