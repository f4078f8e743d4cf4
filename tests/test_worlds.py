"""Points 5, 17 to 27: many deeds by chance, told beside a world in the plainest way.

Behind each deed each file is told just as if it were alone, and each grain is held just as often as it stands.
"""

import random
import unittest

from lentloft.errors import LoftError
from lentloft.files import File
from lentloft.lending import copied, differs, lend, shared
from lentloft.pool import Pool
from tests.samples import TOP, moved, normal_of
from tests.worlds import Refusal, World

WORDS = ("lay", "hold", "let_go", "resize", "make_holes", "write", "write", "take", "take", "lend", "lend", "copied")


class Real:
    """The program's pool and files, called as a world is."""

    def __init__(self, room, many, base):
        self.base = base
        self.pool = Pool(room)
        self.files = [File(self.pool) for _ in range(many)]
        for file in self.files:
            file.resize(base)

    def do(self, word, things):
        if word in ("lay", "hold", "let_go"):
            return getattr(self.pool, word)(*things)
        if word == "lend":
            source, at, many, target, to = things
            return lend(self.files[source], self.base + at, many, self.files[target], self.base + to)
        if word == "copied":
            source, target = things
            new = copied(self.files[source])
            self.files[target].resize(0)
            self.files[target] = new
            return None
        file, first, *more = things
        return getattr(self.files[file], word)(self.base + first, *more)


def deed_of(chance, world, span):
    """A deed with things that mostly can be done, and now and then can't."""
    word = chance.choice(WORDS)
    grains = list(world.contents) * 3 + [world.room]
    file, at = chance.randrange(len(world.files)), chance.randint(0, span)
    if word == "lay":
        return word, [chance.randint(0, 3)]
    if word == "hold":
        return word, [chance.choice(grains)]
    if word == "let_go":
        # Just what was laid or held beside the files may be let go.
        own = [grain for grain in world.beside if world.beside[grain]] or [world.room]
        return word, [chance.choice(own)]
    if word == "resize":
        return word, [file, at]
    if word == "make_holes":
        return word, [file, at, chance.randint(0, chance.choice((2, span, TOP)))]
    if word == "write":
        return word, [file, at, [chance.randint(0, 3) for _ in range(chance.choice((1, 1, 2, 3, 24)))]]
    if word == "take":
        many = chance.choice((1, 2, 5, 20, 60))
        cells = [chance.choice(list(world.contents) + [None]) for _ in range(many)]
        if not chance.randrange(8):
            cells[chance.randrange(many)] = world.room
        return word, [file, at, cells]
    other = chance.randrange(len(world.files))
    if word == "copied":
        return word, [file, other]
    size = len(world.files[file])
    at = chance.randint(0, max(0, size - 1))
    return word, [file, at, chance.randint(1, max(1, size - at) + chance.randint(0, 1)), other, chance.randint(0, span)]


class TestWorlds(unittest.TestCase):
    def same_file(self, world, real, k):
        cells, file = world.files[k], real.files[k]
        base = world.base
        self.assertEqual(file.size(), base + len(cells))
        read = [content for at in range(0, len(cells), 60) for content in file.read(base + at, 60)]
        self.assertEqual(read, world.read(k))
        self.assertEqual([file.grain_at(base + at) for at in range(len(cells))], cells)
        held = {at for at, grain in enumerate(cells) if grain is not None}
        self.assertEqual(file.held(), moved(normal_of(held), base))
        self.assertEqual(file.pieces(), world.pieces(k))

    def same(self, world, real):
        for k in range(len(world.files)):
            self.same_file(world, real, k)
        self.assertEqual(real.pool.kept(), sorted(world.contents))
        self.assertEqual(real.pool.left(), world.room - len(world.contents))
        for grain in world.contents:
            self.assertEqual(real.pool.content_of(grain), world.contents[grain])
            self.assertEqual(real.pool.holds(grain), world.times(grain))

    def same_between(self, world, real):
        for one in range(len(world.files)):
            for other in range(len(world.files)):
                self.assertEqual(shared(real.files[one], real.files[other]), world.shared(one, other))
                places = moved(normal_of(world.differs(one, other)), world.base)
                self.assertEqual(differs(real.files[one], real.files[other]), places)

    def done(self, world, word, things):
        try:
            return getattr(world, word)(*things)
        except Refusal as refusal:
            return refusal.args

    def really_done(self, real, word, things):
        try:
            return real.do(word, things)
        except LoftError as refusal:
            return (type(refusal).__name__, *vars(refusal).values())

    def go(self, seed, room, many, span, base, deeds):
        chance = random.Random(seed)
        world, real = World(room, many, base), Real(room, many, base)
        refusals = {}
        for each in range(deeds):
            word, things = deed_of(chance, world, span)
            with self.subTest(seed=seed, each=each, word=word, things=things):
                expected = self.done(world, word, things)
                self.assertEqual(self.really_done(real, word, things), expected)
                self.same(world, real)
                if each % 5 == 0:
                    self.same_between(world, real)
            if isinstance(expected, tuple):
                refusals[expected[0]] = refusals.get(expected[0], 0) + 1
        return refusals

    def test_small_rooms(self):
        for seed, room in enumerate((1, 2, 3, 5)):
            refusals = self.go(seed, room, 3, 9, 0, 400)
            self.assertGreater(refusals["NoRoom"], 5)
            self.assertGreater(refusals["NoGrain"], 5)
            self.assertGreater(refusals["NoPlace"], 5)

    def test_room_for_all(self):
        for seed in (10, 11):
            refusals = self.go(seed, 120, 4, 70, 0, 400)
            self.assertGreater(refusals["TooFull"], 5)

    def test_narrow_files(self):
        refusals = self.go(20, 30, 3, 75, 0, 500)
        self.assertGreater(refusals["TooFull"], 5)
        self.assertGreater(refusals["NoRoom"], 5)

    def test_far_from_both_ends(self):
        self.go(30, 20, 3, 30, 10 ** 11, 400)

    def test_at_the_last_places(self):
        for seed, room, refusal in ((40, 4, "NoRoom"), (41, 120, "TooFull")):
            refusals = self.go(seed, room, 3, 110, TOP - 110, 400)
            self.assertGreater(refusals["NoPlace"], 20)
            self.assertGreater(refusals[refusal], 5)

    def test_one_file(self):
        self.go(50, 6, 1, 12, 0, 400)


class TestTwoWorlds(unittest.TestCase):
    def test_by_turns_they_know_nothing_of_one_another(self):
        case = TestWorlds()
        chance = random.Random(60)
        worlds = [(World(room, 2), Real(room, 2, 0)) for room in (4, 9)]
        for _ in range(300):
            world, real = chance.choice(worlds)
            word, things = deed_of(chance, world, 12)
            self.assertEqual(case.really_done(real, word, things), case.done(world, word, things))
            for each in worlds:
                case.same(*each)


if __name__ == "__main__":
    unittest.main()
