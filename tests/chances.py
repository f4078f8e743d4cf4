"""Deeds by chance, done at a loft and at one told in the plainest way, which then tell the same."""

from lentloft.errors import LoftError
from lentloft.merging import likes, merge, part
from tests.cases import Case
from tests.lofts import LABELS, NAMES, PlainLoft
from tests.samples import TOP
from tests.worlds import Refusal

WORDS = (
    "make", "make", "drop", "resize", "write", "write", "write", "hole", "lend", "lend", "lend", "twin",
    "freeze", "freeze", "forget", "back", "exchange", "merge", "part",
)
# With few that let go, files get full.
GREEDY = WORDS + ("write",) * 12 + ("lend",) * 12


def done_at(loft, word, things):
    """What a deed tells, or its refusal as a tuple, at a loft or at a plain one."""
    try:
        if isinstance(loft, PlainLoft) or word not in ("merge", "part"):
            return getattr(loft, word)(*things)
        return {"merge": merge, "part": part}[word](loft, *things)
    except Refusal as refusal:
        return refusal.args
    except LoftError as refusal:
        return (type(refusal).__name__, *vars(refusal).values())


def mostly(chance, there, all_of_them):
    """Mostly one that is there, now and then any."""
    return chance.choice(sorted(there)) if there and chance.randrange(8) else chance.choice(all_of_them)


def lend_of(chance, plain, span):
    where = chance.choice(["", "", mostly(chance, plain.labels(), LABELS)])
    names = plain.files(where) if where in plain.labels() + [""] else plain.living
    name = mostly(chance, names, NAMES)
    size = len(names.get(name, []))
    at = chance.randint(0, max(0, size - 1))
    many = chance.randint(1, max(1, size - at) + chance.randint(0, 1))
    return [where, name, at, many, mostly(chance, plain.living, NAMES), chance.randint(0, span)]


def deed_of(chance, plain, span, words=WORDS):
    """A deed with things that mostly can be done, and now and then can't."""
    word = chance.choice(words)
    name = mostly(chance, plain.living, NAMES)
    if word == "make":
        return word, [chance.choice(NAMES)]
    if word == "resize":
        return word, [name, chance.randint(0, span)]
    if word == "write":
        contents = [chance.randint(0, 3) for _ in range(chance.choice((1, 1, 2, 3, 5, 24)))]
        return word, [name, chance.randint(0, span), contents]
    if word == "hole":
        return word, [name, chance.randint(0, span), chance.choice((0, 1, 2, 5, span, TOP))]
    if word == "lend":
        return word, lend_of(chance, plain, span)
    if word == "twin":
        where, source = lend_of(chance, plain, span)[:2]
        return word, [where, source, chance.choice(NAMES)]
    if word == "freeze":
        return word, [chance.choice(LABELS)]
    if word in ("forget", "back"):
        return word, [mostly(chance, plain.labels(), LABELS)]
    if word == "exchange":
        grains = plain.kept() + [plain.room]
        alike = [pair for pair in [(one, other) for one in plain.kept() for other in plain.kept()]
                 if plain.contents[pair[0]] == plain.contents[pair[1]]]
        return word, list(mostly(chance, alike, [(one, chance.choice(grains)) for one in grains]))
    if word == "merge":
        return word, [chance.choice((0, 1, 1, 2, 120))]
    return word, [name]


class SameCase(Case):
    def same_files(self, plain, loft):
        self.assertEqual(loft.labels(), plain.labels())
        for where in plain.labels() + [""]:
            self.assertEqual(loft.names(where), plain.names(where))
            for name in plain.names(where):
                self.assertEqual(loft.size(where, name), plain.size(where, name))
                self.assertEqual(loft.held(where, name), plain.held(where, name))
                self.assertEqual(loft.pieces(where, name), plain.pieces(where, name))
                size = plain.size(where, name)
                read = [content for at in range(0, size, 60) for content in loft.read(where, name, at, 60)]
                self.assertEqual(read, plain.read_all(where, name))

    def same(self, plain, loft):
        self.same_files(plain, loft)
        self.assertEqual(loft.kept(), plain.kept())
        self.assertEqual(loft.left(), plain.left())
        for grain in plain.kept():
            self.assertEqual(loft.content_of(grain), plain.content_of(grain))
        self.rule_of_holding(loft)
        self.assertEqual(likes(loft), plain.likes())
