"""Points 48, 49: deeds that are done, written as texts and read again."""

import random
import unittest

from lentloft.deeds import do_deed, read_deed, show_deed
from lentloft.errors import NoFile, NoLabel, NoParcel, NoPlace, NoRoom, NoText, There, TooFull, TooMany
from lentloft.loft import Loft
from lentloft.merging import merge, part
from lentloft.parcels import lay
from tests.cases import TOP, Case, loft_state, loft_with
from tests.samples import Stranger, no_wholes
from tests.texts import PAIRS, PATTERN, deed_by_chance, shown

FUNCTIONS = {"merge": merge, "part": part, "lay": lay}
SIGNS = "".join(chr(code) for code in range(32, 127)) + "\n"


def frozen_loft():
    loft = loft_with(20, a=[1, 2, 2, None, 3], b=[4])
    loft.freeze("s")
    loft.write("a", 0, [5])
    return loft


class TestDo(Case):
    def test_each_kind_is_what_the_method_or_function_does(self):
        deeds = (
            ("make", "c"), ("drop", "a"), ("resize", "a", 2), ("resize", "a", TOP), ("write", "a", 3, [7, 8]),
            ("hole", "a", 0, 2), ("lend", "", "a", 0, 2, "b", 5), ("lend", "s", "a", 0, 5, "b", 0),
            ("twin", "s", "a", "c"),
            ("twin", "", "a", "c"), ("freeze", "t"), ("forget", "s"), ("back", "s"), ("merge", 0), ("merge", 1),
            ("merge", 120),
            ("part", "a"), ("part", "b"),
            ("lay", "s", [("gone", "a"), ("file", "b", 9), ("lend", 0, 5, "a", 0), ("write", 6, [1]),
                          ("again", 7, 2, "b", 0)]),
            ("lay", None, [("file", "x", 3), ("write", 0, [1, 2])]), ("lay", None, []),
        )
        self.assertEqual(len({deed[0] for deed in deeds}), 13)
        for deed in deeds:
            one, other = frozen_loft(), frozen_loft()
            word, *things = deed
            if word in FUNCTIONS:
                meant = FUNCTIONS[word](other, *things)
            else:
                meant = getattr(other, word)(*things)
            told = do_deed(one, deed)
            self.assertEqual((told, type(told)), (meant, type(meant)))
            self.assertEqual(loft_state(one), loft_state(other), deed)
            self.rule_of_holding(one)

    def test_what_merge_and_part_tell(self):
        loft = frozen_loft()
        self.assertEqual(do_deed(loft, ("merge", 5)), 1)
        self.assertEqual(do_deed(loft, ("part", "a")), 3)
        for deed in (("make", "c"), ("write", "c", 0, [1]), ("lay", None, [])):
            self.assertIsNone(do_deed(loft, deed))

    def test_what_is_refused_there_is_refused_so(self):
        full = [("file", "a", 99)] + [("write", 24 * k, [1] * 24) for k in range(3)]
        cases = (
            (There, ["a"], ("make", "a")), (NoFile, ["x"], ("drop", "x")), (NoFile, ["x"], ("resize", "x", 1)),
            (NoPlace, [TOP], ("write", "a", TOP, [1])), (NoRoom, [], ("write", "a", 9, [1] * 24)),
            (NoFile, ["x"], ("hole", "x", 0, 1)),
            (NoLabel, ["t"], ("lend", "t", "x", 0, 1, "y", 0)), (NoPlace, [5], ("lend", "", "a", 5, 1, "b", 0)),
            (There, ["b"], ("twin", "s", "a", "b")), (There, ["s"], ("freeze", "s")), (NoLabel, ["t"], ("forget", "t")),
            (NoLabel, ["t"], ("back", "t")), (NoFile, ["x"], ("part", "x")), (NoLabel, ["t"], ("lay", "t", full)),
            (NoParcel, [0], ("lay", "s", [])), (NoParcel, [1], ("lay", None, [("file", "a", 1), ("gone", "a")])),
            (TooFull, [], ("lay", None, full)), (NoRoom, [], ("lay", None, full[:2])),
        )
        loft = frozen_loft()
        before = loft_state(loft)
        for kind, fields, deed in cases:
            self.refused(kind, fields, do_deed, loft, deed)
            self.assertEqual(loft_state(loft), before)
        for name in "cdef":
            do_deed(loft, ("make", name))
        self.refused(TooMany, [6], do_deed, loft, ("make", "g"))
        self.refused(TooMany, [6], do_deed, loft, ("twin", "", "a", "g"))

    def test_what_is_handed_in_stays(self):
        loft = Loft(9)
        contents, rows = [1, 2], [("file", "a", 3), ("write", 0, [5, 6])]
        do_deed(loft, ("make", "a"))
        do_deed(loft, ("write", "a", 0, contents))
        self.assertEqual(contents, [1, 2])
        contents[0] = 9
        self.assertEqual(loft.read("", "a", 0, 9), [1, 2])
        do_deed(loft, ("lay", None, rows))
        self.assertEqual(rows, [("file", "a", 3), ("write", 0, [5, 6])])
        rows[1][2].append(7)
        self.assertEqual(loft.read("", "a", 0, 9), [5, 6, 0])


class TestTexts(Case):
    def test_each_deed_has_one_text(self):
        self.assertEqual(len({deed[0] for deed, text in PAIRS}), 13)
        for deed, text in PAIRS:
            self.assertEqual(show_deed(deed), text)
            told = read_deed(text)
            self.assertEqual(told, deed)
            self.assertIs(type(told), tuple)

    def test_by_chance(self):
        chance = random.Random(5)
        for _ in range(600):
            deed = deed_by_chance(chance)
            text = show_deed(deed)
            self.assertEqual(text, shown(deed))
            self.assertIsNotNone(PATTERN.fullmatch(text), text)
            self.assertEqual(read_deed(text), deed)

    def test_kinds_within(self):
        for deed, text in PAIRS:
            told = read_deed(text)
            self.assertEqual([type(each) for each in told], [type(each) for each in deed])
            if told[0] == "lay":
                for row, meant in zip(told[2], deed[2]):
                    self.assertEqual([type(each) for each in row], [type(each) for each in meant])
                    self.assertIs(type(row), tuple)

    def test_what_is_handed_in_stays(self):
        contents, rows = [1, 2], [("write", 0, [5, 6])]
        show_deed(("write", "a", 0, contents))
        show_deed(("lay", "s", rows))
        show_deed(("lend", "", "a", 0, 1, "b", 0))
        self.assertEqual((contents, rows), ([1, 2], [("write", 0, [5, 6])]))

    def test_lists_read_are_the_askers_own(self):
        for text in ("write a 0 1 2", "lay s ; write 0 1 2"):
            told = read_deed(text)
            inner = told[3] if told[0] == "write" else told[2][0][2]
            inner.append(7)
            self.assertNotEqual(read_deed(text), told)
            told[-1].clear()
            self.assertEqual(show_deed(read_deed(text)), text)


class TestNoText(Case):
    def none(self, *texts):
        for text in texts:
            self.refused(NoText, [], read_deed, text)

    def test_what_is_no_text(self):
        self.none(*[thing for thing in no_wholes() if not isinstance(thing, str)])
        self.none(0, 1, -1, 10 ** 5000, ("make", "a"), ["make", "a"], b"make a", {"make": "a"}, Stranger())

    def test_no_word_of_a_deed(self):
        self.none("", " ", "\n", "a", "begin", "end", "read a 0 1", "size a", "names", "log", "exchange 0 1", "Make a",
                  "MAKE a",
                  "makes a", "mak a", "copied", "file a 5", "gone a", "again 0 1 a 0", "; gone a", "-", "lay", "lays s")

    def test_blanks(self):
        for deed, text in PAIRS[:-1]:
            words = text.split(" ")
            self.none(" " + text, text + " ", "  " + text, text + "  ", text.replace(" ", "", 1),
                      text.replace(" ", "\n", 1))
            for at in range(1, len(words)):
                self.none(" ".join(words[:at]) + "  " + " ".join(words[at:]))

    def test_line_feeds(self):
        for deed, text in PAIRS[:-1]:
            self.none(text + "\n", "\n" + text, text + "\n" + text, text[:2] + "\n" + text[2:])

    def test_a_word_too_few_or_too_many(self):
        for deed, text in PAIRS:
            words = text.split(" ")
            if deed[0] not in ("lay", "write"):
                for many in range(len(words)):
                    self.none(" ".join(words[:many]))
            if deed[0] != "lay":
                self.none(text + " a", text + " -", text + " ;", text + " ; gone a", text + " -1", text + " 01")
            if deed[0] not in ("write", "lay"):
                self.none(text + " 1", text + " 0")

    def test_noughts_ahead_of_figures(self):
        self.none(
            "resize a 00", "resize a 01", "resize a 007", "write a 00 1", "write a 0 00", "write a 0 1 02",
            "hole a 01 1",
            "hole a 1 01", "hole a 1 00", "lend a 00 1 b 0", "lend a 0 01 b 0", "lend a 0 1 b 00", "merge 00",
            "merge 01",
            "merge 0120", "lay s ; file a 00", "lay s ; write 01 1", "lay s ; write 1 01", "lay s ; lend 0 01 a 0",
            "resize a " + "0" * 5000, "resize a " + "0" * 12 + "1",
        )

    def test_what_is_no_number(self):
        for word in ("", "-", "-0", "-1", "+1", "1.0", "1e3", "1_000", "0x1", "a", "1a", "a1", "1,", "1;", ";", "None",
                     "True", "1/1",
                     "'1'", "[1]"):
            self.none(
                f"resize a {word}", f"write a {word} 1", f"write a 0 {word}", f"write a 0 1 {word}",
                f"write a 0 {word} 1",
                f"hole a {word} 1", f"hole a 1 {word}", f"lend a {word} 1 b 0", f"lend a 0 {word} b 0",
                f"lend a 0 1 b {word}",
                f"merge {word}", f"lay s ; file a {word}", f"lay s ; write {word} 1", f"lay s ; lend {word} 1 a 0",
                f"lay s ; lend 0 {word} a 0", f"lay s ; again 0 1 a {word}",
            )

    def test_what_is_no_name(self):
        for word in ("", "-", "A", "Ab", "aB", "a1", "1", "0", "abcdefghi", "a" * 5000, "a_b", "a-b", "a;", ";", "a.",
                     "/", "a/", "/a",
                     "s/a/b", "s//a", "s/A", "S/a", "abcdefghi/a", "a/abcdefghi", "s/", "s/1"):
            self.none(
                f"make {word}", f"drop {word}", f"resize {word} 1", f"write {word} 0 1", f"hole {word} 0 1",
                f"lend {word} 0 1 b 0", f"lend a 0 1 {word} 0", f"twin {word} b", f"twin a {word}", f"freeze {word}",
                f"forget {word}", f"back {word}", f"part {word}", f"lay s ; gone {word}", f"lay s ; file {word} 0",
                f"lay s ; lend 0 1 {word} 0", f"lay s ; again 0 1 {word} 0",
            )
            if word != "-":
                self.none(f"lay {word}", f"lay {word} ; gone a")

    def test_a_file_of_a_label_stands_for_a_source_alone(self):
        self.none(
            "make s/a", "drop s/a", "resize s/a 0", "write s/a 0 1", "hole s/a 0 1", "part s/a", "freeze s/a",
            "back s/a",
            "forget s/a", "lend a 0 1 s/b 0", "twin a s/b", "lay s/a", "lay s ; gone s/a", "lay s ; lend 0 1 s/a 0",
        )

    def test_beyond_what_the_method_takes(self):
        over, far = str(TOP + 1), "9" * 5000
        for word in (over, far, "9" * 13, "9" * 14, "1" + "0" * 13, "1" + "0" * 5000):
            self.none(
                f"resize a {word}", f"write a {word} 1", f"hole a {word} 1", f"hole a 1 {word}", f"lend a {word} 1 b 0",
                f"lend a 0 {word} b 0", f"lend a 0 1 b {word}", f"merge {word}", f"write a 0 {word}",
                f"write a 0 1 {word} 1",
                f"lay s ; file a {word}", f"lay s ; lend 0 {word} a 0", f"lay s ; again {word} 1 a 0",
                f"lay s ; write {word} 1",
                f"lay s ; write 0 {word}", f"lay s ; lend 0 1 a {word}",
            )
        self.none("merge 121", "merge 200", "merge 1000", "lend a 0 0 b 0", "lend s/a 5 0 b 0", "write a 0 1000000001",
                  "lay s ; lend 0 0 a 0", "lay s ; again 0 0 a 0", "lay s ; write 0 1000000001")

    def test_too_many_contents_and_none_at_all(self):
        self.none("write a 0", "write a", "write a 0" + " 1" * 25, "write a 0" + " 1" * 1000, "lay s ; write 0",
                  "lay s ; write",
                  "lay s ; write 0" + " 1" * 25, "lay s ; write 0 ; gone a")

    def test_rows_of_a_parcel(self):
        self.none(
            "lay s" + " ; gone a" * 601, "lay s" + " ; gone a" * 1000, "lay s ;", "lay ; gone a", "lay s gone a",
            "lay s; gone a",
            "lay s ;gone a", "lay s ; ; gone a", "lay s ; gone a ;", "lay s ; gone a ; ; gone b", "lay s ; gone",
            "lay s ; gone a b",
            "lay s ; file a", "lay s ; file a 1 2", "lay s ; lend 0 1 a", "lay s ; lend 0 1 a 0 0",
            "lay s ; again 0 1 a",
            "lay s ; make a", "lay s ; hole a 0 1", "lay s ; -", "lay s ; lay s", "lay - -", "lay s s", "lay -s",
            "lay s - ; gone a",
            "lay s, gone a", "lay s | gone a", "lay s ; Gone a", "lay s ; gone a , gone b", "lay  ; gone a",
            "lay -- ; gone a",
        )

    def test_each_sign_put_in_left_out_or_put_for_another(self):
        texts = ["make ab", "resize a 10", "write a 5 1 20", "hole a 0 9", "lend s/a 0 3 b 7", "twin s/a b", "merge 12",
                 "lay s ; gone c ; file b 5", "lay - ; lend 0 3 a 2 ; write 3 8 9 ; again 1 1 a 0"]
        for text in texts:
            others = [text[:at] + text[at + 1:] for at in range(len(text))]
            for sign in SIGNS:
                others += [text[:at] + sign + text[at:] for at in range(len(text) + 1)]
                others += [text[:at] + sign + text[at + 1:] for at in range(len(text))]
            for other in others:
                if PATTERN.fullmatch(other):
                    self.assertEqual(show_deed(read_deed(other)), other)
                else:
                    with self.assertRaises(NoText, msg=repr(other)):
                        read_deed(other)


if __name__ == "__main__":
    unittest.main()
