"""Points 9, 43 to 47: parcels by chance, told and laid beside a loft in the plainest way."""

import collections
import random
import unittest

from lentloft.errors import LoftError
from lentloft.loft import Loft
from lentloft.parcels import contents_in, lay, parcel
from tests.cases import loft_state
from tests.chances import WORDS, SameCase, deed_of, done_at
from tests.lofts import PlainLoft
from tests.worlds import Refusal

LAYING = WORDS + ("freeze",) * 3 + ("write", "lend") * 3


def laid_at(loft, base, rows):
    """What laying tells, or its refusal as a tuple."""
    try:
        return loft.lay_rows(base, rows) if isinstance(loft, PlainLoft) else lay(loft, base, rows)
    except Refusal as refusal:
        return refusal.args
    except LoftError as refusal:
        return (type(refusal).__name__, *vars(refusal).values())


def spoiled(chance, rows):
    """Rows, mostly with something changed that may make them wrong."""
    rows = list(rows)
    for _ in range(chance.choice((0, 1, 1, 2))):
        at = chance.randint(0, len(rows))
        some = chance.choice([
            ("gone", chance.choice("abcz")), ("file", chance.choice("abcz"), chance.randint(0, 12)),
            ("write", chance.randint(0, 12), [chance.randint(0, 3)] * chance.randint(1, 3)),
            ("lend", chance.randint(0, 12), chance.randint(1, 4), chance.choice("abc"), chance.randint(0, 9)),
            ("again", chance.randint(0, 12), chance.randint(1, 4), chance.choice("abc"), chance.randint(0, 9)),
        ])
        how = chance.randrange(5)
        if how == 0 and at < len(rows):
            del rows[at]
        elif how == 1:
            rows.insert(at, some)
        elif how == 2 and at < len(rows):
            rows[at] = some
        elif how == 3 and at < len(rows):
            row = list(rows[at])
            place = chance.randrange(len(row))
            if isinstance(row[place], int):
                row[place] += chance.choice((-1, 1, 5))
            rows[at] = tuple(row)
        elif how == 4 and len(rows) > 1:
            one, other = chance.randrange(len(rows)), chance.randrange(len(rows))
            rows[one], rows[other] = rows[other], rows[one]
    return rows


def sharing(plain, base):
    """All places of the living files and of a base's, each beside the first of them that has its grain."""
    places = [(where, name, place, cell) for where in ("", base) for name in sorted(plain.files(where))
              for place, cell in enumerate(plain.files(where)[name]) if cell is not None]
    first = {}
    for where, name, place, cell in places:
        first.setdefault(cell, (where, name, place))
    return [(where, name, place, first[cell]) for where, name, place, cell in places]


class TestParcelsByChance(SameCase):
    def contents_borne(self, plain, base, label, rows):
        """Just the contents of those grains that the state holds and the base doesn't, each once."""
        cells = {cell for name in plain.files(label) for cell in plain.files(label)[name]} - {None}
        ahead = {cell for name in plain.base(base) for cell in plain.base(base)[name]}
        borne = [content for row in rows if row[0] == "write" for content in row[2]]
        self.assertEqual(sorted(borne), sorted(plain.contents[cell] for cell in cells - ahead))
        self.assertEqual(contents_in(rows), len(borne))

    def told(self, chance, plain, loft):
        """A parcel that both tell alike."""
        label = chance.choice(plain.labels())
        base = chance.choice(plain.labels() + [None])
        rows = parcel(loft, base, label)
        self.assertEqual(rows, plain.parcel(base, label))
        self.contents_borne(plain, base, label, rows)
        return base, label, rows

    def laid_on_the_very_state(self, plain, loft, base, label, rows):
        """Point 9, where there is room: at copies, so that the deeds go on as if nothing were laid."""
        plain, loft = plain.copied(), loft.copied()
        expected = laid_at(plain, base, rows)
        self.assertEqual(laid_at(loft, base, rows), expected)
        self.same(plain, loft)
        if expected is None:
            self.assertEqual(loft.names(""), loft.names(label))
            for name in loft.names(label):
                self.assertEqual(plain.read_all("", name), plain.read_all(label, name))
                self.assertEqual((loft.size("", name), loft.held("", name)),
                                 (loft.size(label, name), loft.held(label, name)))
            if base is not None:
                other = plain.copied()
                other.living = other.files(label)
                self.assertEqual(sharing(plain, base), sharing(other, base))
        return expected

    def go(self, seed, room, span, deeds):
        chance = random.Random(seed)
        plain, loft = PlainLoft(room), Loft(room)
        refusals = collections.Counter()
        for each in range(deeds):
            word, things = deed_of(chance, plain, span, LAYING)
            self.assertEqual(done_at(loft, word, things), done_at(plain, word, things))
            if not plain.labels() or each % 3:
                continue
            with self.subTest(seed=seed, each=each):
                base, label, rows = self.told(chance, plain, loft)
                self.laid_on_the_very_state(plain, loft, base, label, rows)
                # Laid elsewhere, or spoiled, it is mostly refused; what is laid then goes on.
                base = chance.choice(plain.labels() + [None])
                rows = spoiled(chance, rows)
                before = loft_state(loft)
                expected = laid_at(plain, base, rows)
                self.assertEqual(laid_at(loft, base, rows), expected, (base, rows))
                self.same(plain, loft)
                if expected is not None:
                    self.assertEqual(loft_state(loft), before)
                refusals[expected and expected[0]] += 1
        return refusals

    def test_small_rooms(self):
        runs = [self.go(seed, room, 9, 500) for seed, room in enumerate((2, 5, 9))]
        refusals = sum(runs, collections.Counter())
        for name in ("NoParcel", "NoRoom", None):
            self.assertGreater(refusals[name], 10, name)

    def test_room_for_all(self):
        for seed in (10, 11):
            refusals = self.go(seed, 120, 30, 400)
            self.assertGreater(refusals[None], 10)


if __name__ == "__main__":
    unittest.main()
