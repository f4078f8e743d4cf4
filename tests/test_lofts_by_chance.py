"""Points 5 to 8, 28 to 42: many deeds by chance, told beside a loft in the plainest way."""

import collections
import random
import unittest

from lentloft.loft import Loft
from lentloft.owing import common, freed_by, holders, owes, owners
from tests.cases import loft_file_state
from tests.chances import GREEDY, WORDS, SameCase, deed_of, done_at
from tests.lofts import PlainLoft

RULES = ("alone", "eldest", "even", "places")


class TestLoftsByChance(SameCase):
    def same_owing(self, chance, plain, loft):
        self.assertEqual(owners(loft), plain.owners())
        for grain in plain.kept():
            self.assertEqual(holders(loft, grain), plain.holders(grain))
        for rule in RULES:
            self.assertEqual(owes(loft, rule), plain.owes(rule))
        self.assertEqual(common(loft), plain.common())
        some = [owner for owner in plain.owners() if chance.randrange(2)]
        chance.shuffle(some)
        self.assertEqual(freed_by(loft, some), plain.freed_by(some))

    def others_are_as_they_were(self, word, things, before, loft):
        """Point 5: what is read of each file but the one that is changed is as it was."""
        changed = things[4] if word == "lend" else things[2] if word == "twin" else things[0]
        for (where, name), state in before.items():
            if where in loft.labels() or where == "" and word != "back" and name != changed:
                size, held, pieces, read = loft_file_state(loft, where, name)
                self.assertEqual((size, held, read), (state[0], state[1], state[3]))
                if word not in ("exchange", "merge"):
                    self.assertEqual(pieces, state[2])

    def go(self, seed, room, span, deeds, words=WORDS):
        """Do so many deeds, and tell how often each refusal came."""
        chance = random.Random(seed)
        plain, loft = PlainLoft(room), Loft(room)
        refusals = collections.Counter()
        for each in range(deeds):
            word, things = deed_of(chance, plain, span, words)
            with self.subTest(seed=seed, each=each, word=word, things=things):
                before = {owner: loft_file_state(loft, *owner) for owner in owners(loft)}
                expected = done_at(plain, word, things)
                self.assertEqual(done_at(loft, word, things), expected)
                self.same(plain, loft)
                self.others_are_as_they_were(word, things, before, loft)
                if each % 8 == 0:
                    self.same_owing(chance, plain, loft)
                if each % 20 == 0:
                    # Both go on as copies from here.
                    plain, loft = plain.copied(), loft.copied()
                    self.same(plain, loft)
            if isinstance(expected, tuple):
                refusals[expected[0]] += 1
        return refusals

    def refused_often(self, refusals, *names):
        for name in names:
            self.assertGreater(refusals[name], 2, name)

    def test_small_rooms(self):
        runs = [self.go(seed, room, 9, 350) for seed, room in enumerate((1, 2, 3, 6))]
        refusals = sum(runs, collections.Counter())
        self.refused_often(refusals, "NoRoom", "NoLabel", "NoFile", "There", "NoPlace", "NoGrain", "TooMany", "Unlike")

    def test_room_for_all(self):
        runs = [self.go(seed, 120, 75, 350, GREEDY) for seed in (10, 11)]
        self.refused_often(sum(runs, collections.Counter()), "TooFull", "There", "NoFile", "NoRoom", "NoPlace")

    def test_some_room(self):
        for seed in (20, 21):
            self.go(seed, 25, 20, 350)


class TestTwoLofts(SameCase):
    def test_by_turns_they_know_nothing_of_one_another(self):
        chance = random.Random(60)
        lofts = [(PlainLoft(room), Loft(room)) for room in (4, 30)]
        for _ in range(300):
            plain, loft = chance.choice(lofts)
            word, things = deed_of(chance, plain, 12)
            self.assertEqual(done_at(loft, word, things), done_at(plain, word, things))
            for each in lofts:
                self.same(*each)


if __name__ == "__main__":
    unittest.main()
