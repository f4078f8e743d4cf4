"""Points 5 to 8, 28 to 42: many deeds by chance, told beside a loft in the plainest way."""

import collections
import random
import unittest

from lentloft.errors import LoftError
from lentloft.loft import Loft
from lentloft.merging import likes, merge, part
from lentloft.owing import common, freed_by, holders, owes, owners
from tests.cases import Case, loft_file_state
from tests.lofts import LABELS, NAMES, PlainLoft
from tests.samples import TOP
from tests.worlds import Refusal

WORDS = (
    "make", "make", "drop", "resize", "write", "write", "write", "hole", "lend", "lend", "lend", "twin",
    "freeze", "freeze", "forget", "back", "exchange", "merge", "part",
)
# With few that let go, files get full.
GREEDY = WORDS + ("write",) * 12 + ("lend",) * 12
RULES = ("alone", "eldest", "even", "places")


def done_at(loft, word, things):
    """What a deed tells, or its refusal as a tuple, at a loft or at a plain one."""
    try:
        if isinstance(loft, PlainLoft) or word not in ("merge", "part"):
            return getattr(loft, word)(*things)
        return {"merge": merge, "part": part}[word](loft, *things)
    except Refusal as refusal:
        return refusal.args
    except LoftError as refusal:
        return (type(refusal).__name__, *vars(refusal).values())


def mostly(chance, there, all_of_them):
    """Mostly one that is there, now and then any."""
    return chance.choice(sorted(there)) if there and chance.randrange(8) else chance.choice(all_of_them)


def lend_of(chance, plain, span):
    where = chance.choice(["", "", mostly(chance, plain.labels(), LABELS)])
    names = plain.files(where) if where in plain.labels() + [""] else plain.living
    name = mostly(chance, names, NAMES)
    size = len(names.get(name, []))
    at = chance.randint(0, max(0, size - 1))
    many = chance.randint(1, max(1, size - at) + chance.randint(0, 1))
    return [where, name, at, many, mostly(chance, plain.living, NAMES), chance.randint(0, span)]


def deed_of(chance, plain, span, words=WORDS):
    """A deed with things that mostly can be done, and now and then can't."""
    word = chance.choice(words)
    name = mostly(chance, plain.living, NAMES)
    if word == "make":
        return word, [chance.choice(NAMES)]
    if word == "resize":
        return word, [name, chance.randint(0, span)]
    if word == "write":
        contents = [chance.randint(0, 3) for _ in range(chance.choice((1, 1, 2, 3, 5, 24)))]
        return word, [name, chance.randint(0, span), contents]
    if word == "hole":
        return word, [name, chance.randint(0, span), chance.choice((0, 1, 2, 5, span, TOP))]
    if word == "lend":
        return word, lend_of(chance, plain, span)
    if word == "twin":
        where, source = lend_of(chance, plain, span)[:2]
        return word, [where, source, chance.choice(NAMES)]
    if word == "freeze":
        return word, [chance.choice(LABELS)]
    if word in ("forget", "back"):
        return word, [mostly(chance, plain.labels(), LABELS)]
    if word == "exchange":
        grains = plain.kept() + [plain.room]
        alike = [pair for pair in [(one, other) for one in plain.kept() for other in plain.kept()]
                 if plain.contents[pair[0]] == plain.contents[pair[1]]]
        return word, list(mostly(chance, alike, [(one, chance.choice(grains)) for one in grains]))
    if word == "merge":
        return word, [chance.choice((0, 1, 1, 2, 120))]
    return word, [name]


class TestLoftsByChance(Case):
    def same_files(self, plain, loft):
        self.assertEqual(loft.labels(), plain.labels())
        for where in plain.labels() + [""]:
            self.assertEqual(loft.names(where), plain.names(where))
            for name in plain.names(where):
                self.assertEqual(loft.size(where, name), plain.size(where, name))
                self.assertEqual(loft.held(where, name), plain.held(where, name))
                self.assertEqual(loft.pieces(where, name), plain.pieces(where, name))
                size = plain.size(where, name)
                read = [content for at in range(0, size, 60) for content in loft.read(where, name, at, 60)]
                self.assertEqual(read, plain.read_all(where, name))

    def same(self, plain, loft):
        self.same_files(plain, loft)
        self.assertEqual(loft.kept(), plain.kept())
        self.assertEqual(loft.left(), plain.left())
        for grain in plain.kept():
            self.assertEqual(loft.content_of(grain), plain.content_of(grain))
        self.rule_of_holding(loft)
        self.assertEqual(likes(loft), plain.likes())

    def same_owing(self, chance, plain, loft):
        self.assertEqual(owners(loft), plain.owners())
        for grain in plain.kept():
            self.assertEqual(holders(loft, grain), plain.holders(grain))
        for rule in RULES:
            self.assertEqual(owes(loft, rule), plain.owes(rule))
        self.assertEqual(common(loft), plain.common())
        some = [owner for owner in plain.owners() if chance.randrange(2)]
        chance.shuffle(some)
        self.assertEqual(freed_by(loft, some), plain.freed_by(some))

    def others_are_as_they_were(self, word, things, before, loft):
        """Point 5: what is read of each file but the one that is changed is as it was."""
        changed = things[4] if word == "lend" else things[2] if word == "twin" else things[0]
        for (where, name), state in before.items():
            if where in loft.labels() or where == "" and word != "back" and name != changed:
                size, held, pieces, read = loft_file_state(loft, where, name)
                self.assertEqual((size, held, read), (state[0], state[1], state[3]))
                if word not in ("exchange", "merge"):
                    self.assertEqual(pieces, state[2])

    def go(self, seed, room, span, deeds, words=WORDS):
        """Do so many deeds, and tell how often each refusal came."""
        chance = random.Random(seed)
        plain, loft = PlainLoft(room), Loft(room)
        refusals = collections.Counter()
        for each in range(deeds):
            word, things = deed_of(chance, plain, span, words)
            with self.subTest(seed=seed, each=each, word=word, things=things):
                before = {owner: loft_file_state(loft, *owner) for owner in owners(loft)}
                expected = done_at(plain, word, things)
                self.assertEqual(done_at(loft, word, things), expected)
                self.same(plain, loft)
                self.others_are_as_they_were(word, things, before, loft)
                if each % 8 == 0:
                    self.same_owing(chance, plain, loft)
                if each % 20 == 0:
                    # Both go on as copies from here.
                    plain, loft = plain.copied(), loft.copied()
                    self.same(plain, loft)
            if isinstance(expected, tuple):
                refusals[expected[0]] += 1
        return refusals

    def refused_often(self, refusals, *names):
        for name in names:
            self.assertGreater(refusals[name], 2, name)

    def test_small_rooms(self):
        runs = [self.go(seed, room, 9, 350) for seed, room in enumerate((1, 2, 3, 6))]
        refusals = sum(runs, collections.Counter())
        self.refused_often(refusals, "NoRoom", "NoLabel", "NoFile", "There", "NoPlace", "NoGrain", "TooMany", "Unlike")

    def test_room_for_all(self):
        runs = [self.go(seed, 120, 75, 350, GREEDY) for seed in (10, 11)]
        self.refused_often(sum(runs, collections.Counter()), "TooFull", "There", "NoFile", "NoRoom", "NoPlace")

    def test_some_room(self):
        for seed in (20, 21):
            self.go(seed, 25, 20, 350)


class TestTwoLofts(unittest.TestCase):
    def test_by_turns_they_know_nothing_of_one_another(self):
        case = TestLoftsByChance()
        chance = random.Random(60)
        lofts = [(PlainLoft(room), Loft(room)) for room in (4, 30)]
        for _ in range(300):
            plain, loft = chance.choice(lofts)
            word, things = deed_of(chance, plain, 12)
            self.assertEqual(done_at(loft, word, things), done_at(plain, word, things))
            for each in lofts:
                case.same(*each)


if __name__ == "__main__":
    unittest.main()
