"""Point 3 for files and lending: whose the lists are, and that the same is told again."""

import unittest

from lentloft.errors import LoftError
from lentloft.files import File
from lentloft.lending import copied, differs, lend, shared
from tests.cases import TOP, Case, file_state, pool_state


class OwnCase(Case):
    def setUp(self):
        self.pool = self.pool_with(60, 5, 6, 7)
        self.file = self.file_with(self.pool, 0, 1, None, 2, 2)
        self.other = self.file_with(self.pool, None, 0, 1, 0)

    def state(self):
        return file_state(self.file), file_state(self.other), pool_state(self.pool)


class TestHandedIn(OwnCase):
    def test_lists_stay_as_they_were(self):
        contents, grains = [8, 9, 8], [1, None, 0, 0]
        self.file.write(1, contents)
        self.file.take(3, grains)
        self.assertEqual((contents, grains), ([8, 9, 8], [1, None, 0, 0]))

    def test_lists_of_refused_calls_stay_as_they_were(self):
        for method, things in (
            (self.file.write, [8] * 24), (self.file.take, [0] * 60), (self.file.write, [1, -1]),
            (self.file.take, [0, None, 77]), (self.file.take, [None, "a"]),
        ):
            as_they_were = list(things)
            with self.assertRaises(LoftError):
                method(TOP, things)
            self.assertEqual(things, as_they_were)

    def test_what_is_done_to_them_behind_the_call_changes_nothing(self):
        contents, grains = [8, 9, 8], [1, None, 0, 0]
        self.file.write(1, contents)
        self.other.take(2, grains)
        before = self.state()
        for things in (contents, grains):
            things[0] = 2
            things.append(1)
            things.reverse()
            self.assertEqual(self.state(), before)
            things.clear()
            self.assertEqual(self.state(), before)

    def test_one_list_handed_in_twice(self):
        grains = [0, None, 1]
        self.file.take(0, grains)
        self.other.take(1, grains)
        contents = [8, 9]
        self.file.write(0, contents)
        self.other.write(0, contents)
        self.assertEqual((self.file.read(0, 2), self.other.read(0, 2)), ([8, 9], [8, 9]))
        self.assertEqual((grains, contents), ([0, None, 1], [8, 9]))
        self.assertNotEqual(self.file.grain_at(0), self.other.grain_at(0))

    def test_a_told_list_may_be_handed_in(self):
        told = self.file.read(0, 60)
        self.other.write(0, told)
        self.assertEqual(told, [5, 6, 0, 7, 7])
        kept = self.pool.kept()
        self.other.take(0, kept)
        self.assertEqual(kept, list(range(8)))


class TestTold(OwnCase):
    def calls(self):
        return [
            (self.file.read, 0, 60), (self.file.read, 0, 0), (self.file.read, 9, 9), (self.file.held,),
            (self.file.pieces,), (self.pool.kept,), (shared, self.file, self.other), (shared, self.file, self.file),
            (differs, self.file, self.other), (differs, self.file, self.file), (File(self.pool).held,),
            (File(self.pool).pieces,),
        ]

    def test_they_are_the_asker_s_own(self):
        before = self.state()
        for function, *things in self.calls():
            expected = list(function(*things))
            told = function(*things)
            self.assertIs(type(told), list)
            self.assertIsNot(told, function(*things))
            told.append((1, 2))
            told.reverse()
            self.assertEqual(function(*things), expected)
            told.clear()
            self.assertEqual(function(*things), expected)
            self.assertEqual(self.state(), before)

    def test_what_was_told_stays_as_it_was(self):
        told = [function(*things) for function, *things in self.calls()]
        as_they_were = [list(each) for each in told]
        self.file.write(0, [1, 2, 3, 4, 5, 6])
        self.other.resize(0)
        lend(self.file, 0, 6, self.other, 9)
        self.pool.lay(8)
        self.assertEqual(told, as_they_were)

    def test_asking_changes_nothing(self):
        before = self.state()
        for _ in range(3):
            for function, *things in self.calls():
                self.assertEqual(function(*things), function(*things))
            self.assertEqual((self.file.size(), self.file.grain_at(3), self.file.grain_at(9)), (5, 2, None))
            self.assertIs(self.file.pool(), self.pool)
        self.assertEqual(self.state(), before)

    def test_tuples_within_the_told_lists(self):
        for told, length in (
            (self.file.held(), 2), (self.file.pieces(), 3), (shared(self.file, self.other), 3),
            (differs(self.file, self.other), 2),
        ):
            self.assertTrue(told)
            for each in told:
                self.assertIs(type(each), tuple)
                self.assertEqual([type(number) for number in each], [int] * length)

    def test_a_copy_shares_no_list_with_what_was_copied(self):
        copy = copied(self.file)
        before = file_state(self.file)
        copy.take(0, [None, 2, 1])
        copy.resize(3)
        self.assertEqual(file_state(self.file), before)


if __name__ == "__main__":
    unittest.main()
