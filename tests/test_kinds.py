"""Points 2, 4 and 11: the kinds of things, and which argument is refused first."""

import string
import unittest

from lentloft.errors import Wrong
from lentloft.kinds import are_contents, is_content, is_grain, is_name, is_place, is_room, is_whole, is_within, need
from tests.samples import no_grains, no_rooms, no_wholes, no_writings

GREAT = 10 ** 5000


class TestNumbers(unittest.TestCase):
    def told(self, function, right, wrong):
        for thing in right:
            with self.subTest(kind=type(thing)):
                self.assertIs(function(thing), True)
        for thing in wrong:
            with self.subTest(kind=type(thing)):
                self.assertIs(function(thing), False)

    def test_is_whole(self):
        near = list(range(-3, 4)) + [10 ** 9 - 1, 10 ** 9, 10 ** 9 + 1, 10 ** 12 - 1, 10 ** 12, 10 ** 12 + 1]
        great = [2 ** 31, 2 ** 32, 2 ** 63 - 1, 2 ** 63, 2 ** 64, 10 ** 100, GREAT]
        self.told(is_whole, near + great + [-number for number in near + great], no_wholes())

    def test_is_content(self):
        right = [0, 1, 2, 7, 255, 256, 10 ** 8, 10 ** 9 - 1, 10 ** 9]
        wrong = [-1, -2, -(10 ** 9), -GREAT, 10 ** 9 + 1, 10 ** 9 + 2, 2 ** 30, 10 ** 10, 10 ** 12, GREAT]
        self.told(is_content, right, wrong + no_wholes())

    def test_is_place(self):
        right = [0, 1, 2, 7, 10 ** 9, 10 ** 9 + 1, 2 ** 31, 2 ** 32, 10 ** 11, 10 ** 12 - 1, 10 ** 12]
        wrong = [-1, -2, -(10 ** 12), -GREAT, 10 ** 12 + 1, 10 ** 12 + 2, 10 ** 13, 2 ** 63, GREAT]
        self.told(is_place, right, wrong + no_wholes())

    def test_is_grain(self):
        self.told(is_grain, [0, 1, 119, 120, 10 ** 12, 10 ** 12 + 1, GREAT], no_grains())

    def test_is_room(self):
        self.told(is_room, range(1, 121), no_rooms())

    def test_is_within(self):
        self.told(lambda thing: is_within(thing, 3, 5), [3, 4, 5], [2, 6, -4, GREAT] + no_wholes())

    def test_are_contents(self):
        right = [[0], [10 ** 9], [1, 2, 1], list(range(24)), [10 ** 9] * 24]
        self.told(are_contents, right, no_writings())


class TestNames(unittest.TestCase):
    def test_each_small_letter_is_a_name(self):
        for letter in string.ascii_lowercase:
            self.assertIs(is_name(letter), True, letter)
            self.assertIs(is_name(letter * 8), True, letter)
            self.assertIs(is_name("bcd" + letter), True, letter)

    def test_one_to_eight_letters(self):
        self.assertIs(is_name(""), False)
        for many in range(1, 9):
            self.assertIs(is_name("abcdefgh"[:many]), True, many)
            self.assertIs(is_name("a" * many), True, many)
            self.assertIs(is_name("z" * many), True, many)
        for many in (9, 10, 16, 26, 1000, 10 ** 6):
            self.assertIs(is_name("a" * many), False, many)
        self.assertIs(is_name("abcdefghi"), False)
        self.assertIs(is_name(string.ascii_lowercase), False)

    def test_each_other_sign_at_each_place(self):
        signs = [chr(code) for code in range(ord(" "), ord("~") + 1)] + ["\n"]
        for sign in signs:
            if sign in string.ascii_lowercase:
                continue
            self.assertIs(is_name(sign), False, repr(sign))
            for letters in ("a", "ab", "abc", "abcdefg"):
                for at in range(len(letters) + 1):
                    text = letters[:at] + sign + letters[at:]
                    self.assertIs(is_name(text), False, repr(text))

    def test_great_letters_and_figures_alone(self):
        for text in ("A", "Z", "ABC", "aBc", "Abc", "abC", "0", "12", "a1", "1a", " ", "  ", "\n", "\n\n", "a\nb"):
            self.assertIs(is_name(text), False, repr(text))

    def test_what_is_no_text(self):
        things = [
            None, True, False, 0, 1, 7, -1, GREAT, b"a", b"abc", [], ["a"], ["a", "b"], (), ("a",), ("a", "b"),
            {}, {"a": "b"}, {"a"}, range(3), str, object(),
        ]
        for thing in things:
            with self.subTest(kind=type(thing)):
                self.assertIs(is_name(thing), False)


class TestAskingAgain(unittest.TestCase):
    def test_the_same_is_told_and_nothing_is_changed(self):
        things = [["a", 1], {"a": 1}, [], {}]
        as_they_were = [["a", 1], {"a": 1}, [], {}]
        for function in (is_whole, is_content, is_place, is_name):
            for thing in things:
                self.assertIs(function(thing), False)
                self.assertIs(function(thing), False)
            self.assertEqual(things, as_they_were)
        for thing in (0, 5, 10 ** 9):
            self.assertIs(is_content(thing), True)
            self.assertIs(is_content(thing), True)


class TestNeed(unittest.TestCase):
    def test_all_right(self):
        self.assertIsNone(need())
        self.assertIsNone(need(True))
        self.assertIsNone(need(True, True, True))

    def test_the_first_that_is_not_right(self):
        for rights, at in (((False,), 0), ((False, False), 0), ((True, False), 1), ((True, True, False, False), 2)):
            with self.assertRaises(Wrong) as caught:
                need(*rights)
            self.assertEqual(caught.exception.at, at)


if __name__ == "__main__":
    unittest.main()
