"""The texts of deeds told as one pattern each, and deeds by chance to be written."""

import re

from tests.lofts import LABELS, NAMES
from tests.samples import TOP

NAME = "[a-z]{1,8}"
FILE = f"(?:{NAME}/)?{NAME}"
SOME = "(?:[1-9][0-9]{0,11}|1000000000000)"
PLACE = f"(?:0|{SOME})"
CONTENT = "(?:0|[1-9][0-9]{0,8}|1000000000)"
CONTENTS = f"{CONTENT}(?: {CONTENT}){{0,23}}"
MOST = "(?:0|[1-9][0-9]?|1[01][0-9]|120)"
ROW = (f"(?:gone {NAME}|file {NAME} {PLACE}|write {PLACE} {CONTENTS}"
       f"|(?:lend|again) {PLACE} {SOME} {NAME} {PLACE})")
DEEDS = [
    f"(?:make|drop|freeze|forget|back|part) {NAME}", f"resize {NAME} {PLACE}", f"write {NAME} {PLACE} {CONTENTS}",
    f"hole {NAME} {PLACE} {PLACE}", f"lend {FILE} {PLACE} {SOME} {NAME} {PLACE}", f"twin {FILE} {NAME}",
    f"merge {MOST}",
    f"lay (?:-|{NAME})(?: ; {ROW}){{0,600}}",
]
PATTERN = re.compile("|".join(DEEDS))

# Each deed beside its text.
PAIRS = [
    (("make", "a"), "make a"),
    (("make", "zzzzzzzz"), "make zzzzzzzz"),
    (("make", "make"), "make make"),
    (("drop", "b"), "drop b"),
    (("resize", "a", 0), "resize a 0"),
    (("resize", "a", TOP), "resize a 1000000000000"),
    (("write", "a", 5, [1, 2, 3]), "write a 5 1 2 3"),
    (("write", "a", 0, [0]), "write a 0 0"),
    (("write", "abcdefgh", TOP, [10 ** 9] * 24), "write abcdefgh 1000000000000" + " 1000000000" * 24),
    (("hole", "a", 0, 0), "hole a 0 0"),
    (("hole", "a", 10, TOP), "hole a 10 1000000000000"),
    (("lend", "s", "a", 0, 3, "b", 7), "lend s/a 0 3 b 7"),
    (("lend", "", "a", 10, TOP, "b", TOP), "lend a 10 1000000000000 b 1000000000000"),
    (("lend", "lend", "lend", 1, 1, "lend", 0), "lend lend/lend 1 1 lend 0"),
    (("twin", "s", "a", "b"), "twin s/a b"),
    (("twin", "", "a", "b"), "twin a b"),
    (("freeze", "s"), "freeze s"),
    (("forget", "winter"), "forget winter"),
    (("back", "s"), "back s"),
    (("merge", 0), "merge 0"),
    (("merge", 120), "merge 120"),
    (("part", "a"), "part a"),
    (("lay", None, []), "lay -"),
    (("lay", "s", []), "lay s"),
    (("lay", "s", [("gone", "c"), ("file", "b", 5), ("lend", 0, 3, "a", 2), ("write", 3, [8, 9])]),
     "lay s ; gone c ; file b 5 ; lend 0 3 a 2 ; write 3 8 9"),
    (("lay", None, [("again", 4, TOP, "a", 0), ("write", 0, [7] * 24), ("gone", "a"), ("file", "a", TOP)]),
     "lay - ; again 4 1000000000000 a 0 ; write 0" + " 7" * 24 + " ; gone a ; file a 1000000000000"),
    (("lay", "a", [("gone", "a")] * 600), "lay a" + " ; gone a" * 600),
]


def number(chance, least=0, most=TOP):
    return chance.choice((least, most, chance.randint(least, most), min(most, least + chance.randint(0, 12))))


def contents(chance):
    return [number(chance, 0, 10 ** 9) for _ in range(chance.choice((1, 1, 2, 3, 24)))]


def row_by_chance(chance):
    word = chance.choice(("gone", "file", "lend", "write", "again"))
    name = chance.choice(NAMES)
    if word == "gone":
        return (word, name)
    if word == "file":
        return (word, name, number(chance))
    if word == "write":
        return (word, number(chance), contents(chance))
    return (word, number(chance), number(chance, 1), name, number(chance))


def deed_by_chance(chance):
    """Any deed, whether it could be done somewhere or not."""
    word = chance.choice(("make", "drop", "resize", "write", "hole", "lend", "twin", "freeze", "forget", "back",
                          "merge",
                          "part", "lay"))
    name, other = chance.choice(NAMES), chance.choice(NAMES)
    where = chance.choice(("", "", *LABELS))
    if word == "resize":
        return (word, name, number(chance))
    if word == "write":
        return (word, name, number(chance), contents(chance))
    if word == "hole":
        return (word, name, number(chance), number(chance))
    if word == "lend":
        return (word, where, name, number(chance), number(chance, 1), other, number(chance))
    if word == "twin":
        return (word, where, name, other)
    if word == "merge":
        return (word, number(chance, 0, 120))
    if word == "lay":
        return (word, chance.choice((None, *LABELS)), [row_by_chance(chance) for _ in range(chance.choice((0, 1, 2,
                                                                                                           5)))])
    return (word, name)


def shown(deed):
    """The text of a deed, put together in the plainest way."""
    words = []
    for each in deed[1:]:
        words += [str(one) for one in each] if isinstance(each, list) else [str(each)]
    if deed[0] in ("lend", "twin"):
        words[:2] = [words[1] if deed[1] == "" else words[0] + "/" + words[1]]
    if deed[0] == "lay":
        words = ["-" if deed[1] is None else deed[1]]
        for row in deed[2]:
            words.append(";")
            for each in row:
                words += [str(one) for one in each] if isinstance(each, list) else [str(each)]
    return " ".join([deed[0], *words])
