"""Point 4: the refusals, what they stand under, and what they keep."""

import unittest

from lentloft import errors
from tests.samples import Stranger

FIELDS = {
    "Wrong": "at", "NoPlace": "place", "NoGrain": "grain", "NoFile": "name", "NoLabel": "label", "There": "name",
    "TooMany": "most", "NoParcel": "at", "NoLog": "at",
}
BARE = ("NoRoom", "TooFull", "Unlike", "NoText", "NoRow")


def things():
    own = []
    own.append(own)
    return [
        0, 1, -1, 10 ** 12, 10 ** 5000, -(10 ** 5000), True, False, None, "", "a", "a b\n", "x" * 5000, b"", b"a",
        [], [1, [2]], (), (1, 2), (None,), {}, {"a": [1]}, set(), {1}, Stranger(), Stranger, len, own,
        ValueError("a"), LoftErrorOfTests(), range(4),
    ]


class LoftErrorOfTests(errors.LoftError):
    """A refusal of which a refusal is made."""


class TestClasses(unittest.TestCase):
    def refusals(self):
        return {name: getattr(errors, name) for name in list(FIELDS) + list(BARE)}

    def test_there_are_fourteen(self):
        self.assertEqual(len(self.refusals()), 14)
        self.assertEqual(len(set(self.refusals().values())), 14)

    def test_loft_error_stands_under_value_error(self):
        self.assertTrue(issubclass(errors.LoftError, ValueError))
        self.assertIsInstance(errors.LoftError(), ValueError)

    def test_each_stands_under_loft_error_and_value_error(self):
        for name, refusal in self.refusals().items():
            with self.subTest(name=name):
                self.assertEqual(refusal.__name__, name)
                self.assertTrue(issubclass(refusal, errors.LoftError))
                self.assertTrue(issubclass(refusal, ValueError))
                self.assertIsNot(refusal, errors.LoftError)

    def test_none_stands_under_another_one(self):
        for name, refusal in self.refusals().items():
            for other_name, other in self.refusals().items():
                if name != other_name:
                    with self.subTest(name=name, other=other_name):
                        self.assertFalse(issubclass(refusal, other))

    def test_each_is_caught_by_its_own_name(self):
        for name in FIELDS:
            with self.subTest(name=name), self.assertRaises(getattr(errors, name)) as caught:
                raise getattr(errors, name)(5)
            self.assertIsInstance(caught.exception, errors.LoftError)
            self.assertIsInstance(caught.exception, ValueError)
        for name in BARE:
            with self.subTest(name=name), self.assertRaises(getattr(errors, name)) as caught:
                raise getattr(errors, name)()
            self.assertIsInstance(caught.exception, errors.LoftError)
            self.assertIsInstance(caught.exception, ValueError)


class TestFields(unittest.TestCase):
    def test_each_keeps_what_it_is_made_of(self):
        for name, field in FIELDS.items():
            for thing in things():
                with self.subTest(name=name, kind=type(thing)):
                    kept = getattr(getattr(errors, name)(thing), field)
                    self.assertIs(type(kept), type(thing))
                    # A thing that holds itself can't be compared with a copy.
                    self.assertTrue(kept is thing or kept == thing)

    def test_two_of_a_class_keep_each_their_own(self):
        for name, field in FIELDS.items():
            with self.subTest(name=name):
                one, other = getattr(errors, name)("a"), getattr(errors, name)(["b"])
                self.assertEqual(getattr(one, field), "a")
                self.assertEqual(getattr(other, field), ["b"])

    def test_it_is_kept_when_it_was_raised(self):
        for name, field in FIELDS.items():
            with self.subTest(name=name):
                try:
                    raise getattr(errors, name)((1, "x"))
                except errors.LoftError as error:
                    self.assertEqual(getattr(error, field), (1, "x"))


if __name__ == "__main__":
    unittest.main()
