"""Points 5 to 10 over the whole program: deeds by chance told to a desk as rows, and done at a loft beside it."""

import random
import unittest

from lentloft.desk import Desk
from lentloft.errors import LoftError
from lentloft.logs import come_up
from lentloft.loft import Loft
from lentloft.owing import owes, owners
from lentloft.parcels import parcel
from tests.cases import loft_file_state, loft_state
from tests.chances import GREEDY, WORDS, SameCase, deed_of, done_at
from tests.lofts import PlainLoft
from tests.texts import shown


def file_word(where, name):
    return name if where == "" else where + "/" + name


def said(desk, row):
    """What is answered, or the refusal as a tuple."""
    try:
        return desk.say(row)
    except LoftError as refusal:
        return (type(refusal).__name__, *vars(refusal).values())


def joined(things, sign):
    return sign.join(things) or "none"


class TestWhole(SameCase):
    def same_told(self, desk, loft):
        """All that a desk is asked, beside what the loft tells."""
        self.assertEqual(desk.say("names"), joined(loft.names(""), " "))
        self.assertEqual(desk.say("labels"), joined(loft.labels(), " "))
        self.assertEqual(desk.say("kept"), str(len(loft.kept())))
        for where, name in owners(loft):
            word = file_word(where, name)
            self.assertEqual(desk.say(f"size {word}"), str(loft.size(where, name)))
            pieces = [" ".join(map(str, piece)) for piece in loft.pieces(where, name)]
            self.assertEqual(desk.say(f"pieces {word}"), joined(pieces, ", "))
            for at in (0, 7, 55):
                read = loft.read(where, name, at, 60)
                self.assertEqual(desk.say(f"read {word} {at} 60"), joined(map(str, read), " "))
        for rule in ("alone", "eldest", "even", "places"):
            owed = [f"{file_word(where, name)} {top}/{bottom}" for where, name, (top, bottom) in owes(loft, rule)]
            self.assertEqual(desk.say(f"owes {rule}"), joined(owed, ", "))

    def same_parcels(self, chance, desk, loft):
        if not loft.labels():
            return
        base, label = chance.choice([None, *loft.labels()]), chance.choice(loft.labels())
        rows = parcel(loft, base, label)
        texts = shown(("lay", base, rows)).split(" ; ")[1:]
        self.assertEqual(desk.say(f"parcel {base or '-'} {label}"), joined(texts, ", "))

    def answer_of(self, told):
        return told if isinstance(told, tuple) else "ok" if told is None else str(told)

    def go(self, seed, span, deeds, words):
        chance = random.Random(seed)
        desk, loft, plain = Desk(), Loft(120), PlainLoft(120)
        for each in range(deeds):
            word, things = deed_of(chance, plain, span, words)
            if word == "exchange":
                continue
            with self.subTest(seed=seed, each=each, word=word, things=things):
                before = {owner: loft_file_state(loft, *owner) for owner in owners(loft)}
                told = done_at(loft, word, things)
                self.assertEqual(done_at(plain, word, things), told)
                self.assertEqual(said(desk, shown((word, *things))), self.answer_of(told))
                self.same_told(desk, loft)
                self.same(plain, loft)
                self.same_parcels(chance, desk, loft)
                self.changed_by_its_own_deeds_alone(word, things, before, loft)
        return desk, loft

    def changed_by_its_own_deeds_alone(self, word, things, before, loft):
        changed = {"lend": 4, "twin": 2}.get(word, 0)
        for (where, name), (size, held, pieces, read) in before.items():
            if where in loft.labels() or where == "" and word not in ("back", "lay") and name != things[changed]:
                now = loft_file_state(loft, where, name)
                self.assertEqual((now[0], now[1], now[3]), (size, held, read))

    def test_deeds_by_chance(self):
        for seed, span, words in ((1, 9, WORDS), (2, 40, WORDS), (3, 70, GREEDY)):
            desk, loft = self.go(seed, span, 250, words)
            log = desk.say("log")
            self.assertGreater(log.count("\n"), 40)
            again = come_up(120, log)
            self.assertEqual((again.log(), loft_state(again.kept_loft())), (log, loft_state(loft)))

    def test_together_either_all_are_done_or_none(self):
        chance = random.Random(8)
        desk, loft, plain = Desk(), Loft(120), PlainLoft(120)
        refused = 0
        for _ in range(120):
            deeds = [deed_of(chance, plain, 9) for _ in range(chance.randint(1, 6))]
            deeds = [(word, things) for word, things in deeds if word != "exchange"]
            if not deeds:
                continue
            self.assertEqual(desk.say("begin"), "..")
            trials = loft.copied(), plain.copied()
            told = None
            for word, things in deeds:
                self.assertEqual(desk.say(shown((word, *things))), "..")
                if not isinstance(told, tuple):
                    told = done_at(trials[0], word, things)
                    self.assertEqual(done_at(trials[1], word, things), told)
            if isinstance(told, tuple):
                refused += 1
                self.assertEqual(said(desk, "end"), told)
            else:
                self.assertEqual(desk.say("end"), "ok")
                loft, plain = trials
            self.same_told(desk, loft)
            self.same(plain, loft)
        self.assertGreater(refused, 10)
        self.assertEqual(loft_state(come_up(120, desk.say("log")).kept_loft()), loft_state(loft))

    def test_a_parcel_is_carried_by_its_text_alone(self):
        """Asked of a desk as words, and laid out of a log's row where another state reads like the base."""
        chance = random.Random(13)
        for seed in range(6):
            desk, loft = self.go(20 + seed, 12, 40, WORDS + ("freeze",) * 4)
            base, label = chance.choice(loft.labels()), chance.choice(loft.labels())
            told = [desk.say(f"parcel - {base}"), desk.say(f"parcel {base} {label}")]
            rows = ["".join(f" ; {row}" for row in words.split(", ") if row != "none") for words in told]
            keeper = come_up(120, f"lay -{rows[0]}\nfreeze {base}\nlay {base}{rows[1]}\n")
            for where, meant in (("", label), (base, base)):
                self.assertEqual(keeper.kept_loft().names(where), loft.names(meant))
                for name in loft.names(meant):
                    now, then = loft_file_state(keeper.kept_loft(), where, name), loft_file_state(loft, meant, name)
                    self.assertEqual((now[0], now[1], now[3]), (then[0], then[1], then[3]))


if __name__ == "__main__":
    unittest.main()
