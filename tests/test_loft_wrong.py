"""Point 4 for lofts: which argument is refused, ahead of all else; what is refused changes nothing."""

import unittest

from lentloft.loft import Loft
from tests.cases import TOP, Case, loft_state, loft_with
from tests.samples import no_grains, no_many_of, no_names, no_places, no_rooms, no_wheres, no_writings

# For each method, one list of arguments that are good, and one that would be refused otherwise.
METHODS = {
    "names": ([""], ["x"]),
    "size": (["", "a"], ["x", "x"]),
    "read": (["s", "a", 0, 60], ["x", "x", TOP, 0]),
    "held": (["", "a"], ["", "x"]),
    "pieces": (["s", "a"], ["s", "x"]),
    "make": (["x"], ["a"]),
    "drop": (["a"], ["x"]),
    "resize": (["a", 0], ["x", TOP]),
    "write": (["a", 0, [5]], ["x", TOP, [5] * 24]),
    "hole": (["a", 0, 1], ["x", TOP, TOP]),
    "lend": (["", "a", 0, 1, "b", 0], ["x", "x", TOP, TOP, "y", TOP]),
    "twin": (["s", "a", "c"], ["x", "x", "a"]),
    "freeze": (["x"], ["s"]),
    "forget": (["s"], ["x"]),
    "back": (["s"], ["x"]),
    "exchange": ([0, 0], [99, 98]),
    "content_of": ([0], [99]),
    "holds": ([0], [99]),
}
NO_SOMES = no_places() + [0]
BADS = {
    "names": [no_wheres()],
    "size": [no_wheres(), no_names()],
    "read": [no_wheres(), no_names(), no_places(), no_many_of(60)],
    "held": [no_wheres(), no_names()],
    "pieces": [no_wheres(), no_names()],
    "make": [no_names()],
    "drop": [no_names()],
    "resize": [no_names(), no_places()],
    "write": [no_names(), no_places(), no_writings()],
    "hole": [no_names(), no_places(), no_places()],
    "lend": [no_wheres(), no_names(), no_places(), NO_SOMES, no_names(), no_places()],
    "twin": [no_wheres(), no_names(), no_names()],
    "freeze": [no_names()],
    "forget": [no_names()],
    "back": [no_names()],
    "exchange": [no_grains(), no_grains()],
    "content_of": [no_grains()],
    "holds": [no_grains()],
}


class TestWrong(Case):
    def test_rooms(self):
        for thing in no_rooms():
            self.wrong(0, Loft, thing)

    def test_each_argument_of_each_method(self):
        loft = loft_with(9, a=[1, None, 2], b=[3])
        loft.freeze("s")
        before = loft_state(loft)
        for method, goods in METHODS.items():
            for good in goods:
                self.wrong_in_each_way(getattr(loft, method), good, BADS[method])
            self.assertEqual(loft_state(loft), before, method)

    def test_in_a_loft_in_which_nothing_is(self):
        loft = Loft(1)
        before = loft_state(loft)
        for method, goods in METHODS.items():
            for at in range(len(goods[0])):
                told = list(goods[0])
                told[at] = None
                self.wrong(at, getattr(loft, method), *told)
        self.assertEqual(loft_state(loft), before)

    def test_what_is_good_is_taken_behind_it(self):
        for method, (good, _) in METHODS.items():
            loft = loft_with(9, a=[1, None, 2], b=[3])
            loft.freeze("s")
            for at in range(len(good)):
                told = list(good)
                told[at] = True
                self.wrong(at, getattr(loft, method), *told)
            getattr(loft, method)(*good)
            self.rule_of_holding(loft)

    def test_living_files_alone_are_changed(self):
        # Where "" may stand for where it is told; a name is never "".
        loft = loft_with(9, a=[1])
        for method in ("make", "drop", "freeze", "forget", "back"):
            self.wrong(0, getattr(loft, method), "")
        self.wrong(4, loft.lend, "", "a", 0, 1, "", 0)
        self.wrong(1, loft.lend, "", "", 0, 1, "a", 0)
        self.wrong(2, loft.twin, "", "a", "")
        self.assertEqual(loft.names(""), ["a"])

    def test_the_limits_themselves_are_taken(self):
        loft = Loft(120)
        for name in ("a", "zzzzzzzz"):
            loft.make(name)
        loft.write("a", TOP - 24, [10 ** 9] * 24)
        loft.write("zzzzzzzz", 0, [0])
        loft.resize("zzzzzzzz", TOP)
        self.assertEqual(loft.read("", "a", TOP, 0), [])
        self.assertEqual(loft.read("", "a", TOP - 60, 60), [0] * 36 + [10 ** 9] * 24)
        loft.lend("", "zzzzzzzz", 0, TOP, "zzzzzzzz", 0)
        loft.lend("", "zzzzzzzz", 0, 1, "a", 0)
        loft.hole("a", TOP, TOP)
        loft.hole("a", 0, TOP)
        self.assertEqual((loft.kept(), loft.size("", "a")), ([24], TOP))


if __name__ == "__main__":
    unittest.main()
