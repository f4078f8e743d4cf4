"""Points 7, 36 to 39: what each file owes of the grains that are kept."""

import itertools
import unittest
from fractions import Fraction
from math import gcd

from lentloft.errors import NoFile, NoGrain, NoLabel
from lentloft.loft import Loft
from lentloft.owing import common, freed_by, holders, owes, owners
from tests.cases import Case, loft_state, loft_with
from tests.samples import Stranger, no_grains, no_lists, no_names, no_objects, no_wheres

RULES = ("alone", "eldest", "even", "places")


def two_states():
    """Files that share in many ways: grain 0 by all, 1 by the first state alone, 2 by one file twice."""
    loft = loft_with(120, b=[7, 8], a=[9])
    loft.lend("", "b", 0, 1, "a", 4)
    loft.lend("", "b", 0, 1, "a", 6)
    loft.freeze("t")
    loft.hole("b", 1, 1)
    loft.lend("", "a", 0, 1, "a", 1)
    loft.freeze("s")
    loft.drop("a")
    loft.write("b", 3, [5, 5])
    return loft


def parts(loft, rule):
    return [amount for where, name, amount in owes(loft, rule)]


def total(loft, rule):
    return sum((Fraction(top, bottom) for top, bottom in parts(loft, rule)), Fraction(0))


class TestOwners(Case):
    def test_of_no_files(self):
        loft = Loft(3)
        self.assertEqual(owners(loft), [])
        loft.freeze("s")
        self.assertEqual(owners(loft), [])
        for rule in RULES:
            self.assertEqual(owes(loft, rule), [])
        self.assertEqual((common(loft), freed_by(loft, [])), (0, 0))

    def test_living_ones_alone(self):
        self.assertEqual(owners(loft_with(3, c=[], a=[1], b=[])), [("", "a"), ("", "b"), ("", "c")])

    def test_states_in_the_order_of_labels_then_the_living(self):
        loft = loft_with(3, b=[], a=[])
        loft.freeze("z")
        loft.drop("a")
        loft.freeze("a")
        loft.make("aa")
        told = [("z", "a"), ("z", "b"), ("a", "b"), ("", "aa"), ("", "b")]
        self.assertEqual(owners(loft), told)
        loft.forget("z")
        loft.freeze("z")
        self.assertEqual(owners(loft), [("a", "b"), ("z", "aa"), ("z", "b"), ("", "aa"), ("", "b")])
        loft.forget("z")
        loft.forget("a")
        self.assertEqual(owners(loft), [("", "aa"), ("", "b")])

    def test_all_36(self):
        loft = loft_with(1, **{name: [] for name in "abcdef"})
        for label in "vwxyz":
            loft.freeze(label)
        self.assertEqual(owners(loft), [(where, name) for where in [*"vwxyz", ""] for name in "abcdef"])


class TestHolders(Case):
    def test_of_each_grain(self):
        loft = two_states()
        self.assertEqual(holders(loft, 0), [
            ("t", "a", 4), ("t", "a", 6), ("t", "b", 0), ("s", "a", 4), ("s", "a", 6), ("s", "b", 0), ("", "b", 0),
        ])
        self.assertEqual(holders(loft, 1), [("t", "b", 1)])
        self.assertEqual(holders(loft, 2), [("t", "a", 0), ("s", "a", 0), ("s", "a", 1)])
        self.assertEqual((holders(loft, 3), holders(loft, 4)), ([("", "b", 3)], [("", "b", 4)]))
        for grain in loft.kept():
            self.assertEqual(len(holders(loft, grain)), loft.holds(grain))

    def test_no_grain(self):
        loft = two_states()
        for grain in (5, 6, 120, 10 ** 5000):
            self.refused(NoGrain, [grain], holders, loft, grain)
        self.refused(NoGrain, [0], holders, Loft(1), 0)


class TestOwes(Case):
    def test_each_rule(self):
        loft = two_states()
        owed = [("t", "a"), ("t", "b"), ("s", "a"), ("s", "b"), ("", "b")]
        amounts = {
            "alone": [(0, 1), (1, 1), (0, 1), (0, 1), (2, 1)],
            "eldest": [(2, 1), (1, 1), (0, 1), (0, 1), (2, 1)],
            "even": [(7, 10), (6, 5), (7, 10), (1, 5), (11, 5)],
            "places": [(13, 21), (8, 7), (20, 21), (1, 7), (15, 7)],
        }
        for rule, told in amounts.items():
            self.assertEqual(owes(loft, rule), [(*owner, amount) for owner, amount in zip(owed, told)], rule)
        self.assertEqual((common(loft), len(loft.kept())), (2, 5))

    def test_nothing_is_owed_of_holes(self):
        loft = loft_with(3, a=[], b=[None, None], c=[1])
        for rule in RULES:
            self.assertEqual(owes(loft, rule), [("", "a", (0, 1)), ("", "b", (0, 1)), ("", "c", (1, 1))])

    def test_lowest_terms_where_parts_come_to_a_whole_one(self):
        loft = loft_with(9, a=[1, 2], b=[])
        loft.lend("", "a", 0, 2, "b", 0)
        self.assertEqual(parts(loft, "even"), [(1, 1), (1, 1)])
        loft.twin("", "a", "c")
        self.assertEqual(parts(loft, "even"), [(2, 3), (2, 3), (2, 3)])
        loft.write("a", 9, [5])
        self.assertEqual(parts(loft, "even"), [(5, 3), (2, 3), (2, 3)])
        loft.lend("", "b", 0, 1, "b", 7)
        self.assertEqual(parts(loft, "places"), [(19, 12), (5, 6), (7, 12)])

    def test_a_grain_at_several_places_of_its_only_owner(self):
        loft = loft_with(3, a=[1], b=[])
        loft.lend("", "a", 0, 1, "a", 1)
        for rule in RULES:
            self.assertEqual(owes(loft, rule), [("", "a", (1, 1)), ("", "b", (0, 1))])
        self.assertEqual(common(loft), 0)

    def test_thirds_and_sevenths(self):
        loft = loft_with(9, a=[4], b=[5], c=[6])
        for k in range(2, 8):
            loft.lend("", "b", 0, 1, "a", k)
        loft.lend("", "c", 0, 1, "a", 9)
        loft.lend("", "c", 0, 1, "c", 1)
        self.assertEqual(parts(loft, "places"), [(46, 21), (1, 7), (2, 3)])
        self.assertEqual(parts(loft, "even"), [(2, 1), (1, 2), (1, 2)])
        self.assertEqual(parts(loft, "eldest"), [(3, 1), (0, 1), (0, 1)])
        self.assertEqual(parts(loft, "alone"), [(1, 1), (0, 1), (0, 1)])

    def test_sums(self):
        loft = two_states()
        lofts = [loft, loft_with(9, a=[1, 2], b=[3]), Loft(1), loft_with(3, a=[])]
        full = loft_with(120, a=list(range(60)), b=list(range(60)))
        for label in "vwxyz":
            full.freeze(label)
            full.lend("", "a", 0, 20, "b", 30)
            full.twin("", "b", chr(ord("c") + len(full.names("")) - 2)) if len(full.names("")) < 6 else None
        for each in lofts + [full]:
            many = len(each.kept())
            for rule in RULES[1:]:
                self.assertEqual(total(each, rule), many)
            self.assertEqual(total(each, "alone") + common(each), many)
            for rule in RULES:
                for top, bottom in parts(each, rule):
                    self.assertEqual((gcd(top, bottom), bottom >= 1, top >= 0), (1, True, True))


def gone(loft, owner):
    """Let one file of a copied loft go, a frozen one by freezing again what is left of its state."""
    where, name = owner
    if where == "":
        loft.drop(name)
        return
    labels, living = loft.labels(), "tmplabel"
    if len(labels) == 5:
        raise AssertionError("no label left to keep the living files under")
    loft.freeze(living)
    for label in labels:
        loft.back(label)
        if label == where:
            loft.drop(name)
        loft.forget(label)
        loft.freeze(label)
    loft.back(living)
    loft.forget(living)


def let_free_by(loft, owner):
    before = len(loft.kept())
    gone(loft, owner)
    return before - len(loft.kept())


class TestGoing(Case):
    """Point 7: files really go, one after another, and what they let free is counted."""

    def lofts(self):
        small = loft_with(9, a=[1, 2], b=[3])
        small.lend("", "a", 0, 2, "b", 3)
        one = loft_with(9, a=[1, 2, 3])
        one.freeze("s")
        one.write("a", 1, [4])
        one.twin("s", "a", "c")
        return [two_states(), small, one, loft_with(2, a=[])]

    def test_alone_is_what_would_be_let_free(self):
        for loft in self.lofts():
            for where, name, (top, bottom) in owes(loft, "alone"):
                self.assertEqual(bottom, 1)
                self.assertEqual(let_free_by(loft.copied(), (where, name)), top)
                self.assertEqual(freed_by(loft, [(where, name)]), top)

    def test_one_after_another_from_the_last_one_on(self):
        for loft in self.lofts():
            going = loft.copied()
            for where, name, (top, bottom) in reversed(owes(loft, "eldest")):
                self.assertEqual((let_free_by(going, (where, name)), 1), (top, bottom))
            self.assertEqual(going.kept(), [])

    def test_even_is_the_mean_over_all_orders(self):
        for loft in self.lofts():
            free = {owner: Fraction(0) for owner in owners(loft)}
            orders = list(itertools.permutations(free))
            for order in orders:
                for at, owner in enumerate(order):
                    free[owner] += freed_by(loft, list(order[:at + 1])) - freed_by(loft, list(order[:at]))
            for where, name, amount in owes(loft, "even"):
                self.assertEqual(Fraction(*amount), free[(where, name)] / len(orders))

    def test_freed_by_is_what_really_goes(self):
        loft = two_states()
        for many in range(6):
            for some in itertools.combinations(owners(loft), many):
                going = loft.copied()
                self.assertEqual(sum(let_free_by(going, owner) for owner in some), freed_by(loft, list(some)))
                self.assertEqual(freed_by(loft, list(some)[::-1]), freed_by(loft, list(some)))


class TestFreedBy(Case):
    def test_none_one_several_all(self):
        loft = two_states()
        self.assertEqual(freed_by(loft, []), 0)
        self.assertEqual([freed_by(loft, [owner]) for owner in owners(loft)], [0, 1, 0, 0, 2])
        self.assertEqual(freed_by(loft, [("t", "a"), ("s", "a")]), 1)
        self.assertEqual(freed_by(loft, [("s", "a"), ("t", "b"), ("t", "a")]), 2)
        self.assertEqual(freed_by(loft, owners(loft)[:-1]), 2)
        self.assertEqual(freed_by(loft, owners(loft)), 5)

    def test_the_first_that_is_no_owner(self):
        loft = two_states()
        before = loft_state(loft)
        cases = (
            (NoLabel, "x", [("x", "a")]), (NoLabel, "x", [("x", "zz")]), (NoFile, "zz", [("s", "zz")]),
            (NoFile, "a", [("", "a")]), (NoFile, "s", [("", "s")]), (NoLabel, "a", [("a", "s")]),
            (NoFile, "zz", [("", "b"), ("", "zz"), ("x", "a")]), (NoLabel, "x", [("s", "a"), ("x", "a"), ("", "zz")]),
            (NoLabel, "y", [("y", "a"), ("x", "a")]), (NoFile, "y", [("", "y"), ("", "x")]),
            (NoFile, "x", owners(loft) + [("t", "x")]),
        )
        for kind, field, some in cases:
            self.refused(kind, [field], freed_by, loft, some)
        self.refused(NoFile, ["a"], freed_by, Loft(1), [("", "a")])
        self.refused(NoLabel, ["s"], freed_by, Loft(1), [("s", "a")])
        self.assertEqual(loft_state(loft), before)


def no_owner_lists():
    good = ("", "a")
    bads = [(thing, "a") for thing in no_wheres()] + [("", thing) for thing in no_names()]
    bads += [(), ("",), ("a",), ("", "a", "a"), ["", "a"], "a", "ab", None, True, 0, {"": "a"}, ((), ())]
    lists = [[bad] for bad in bads] + [[good, bad] for bad in bads] + [[bad, good] for bad in bads]
    lists += [[good, ("x", "a"), bad, ("", "b")] for bad in bads]
    twice = [[good, good], [good, ("s", "a"), good], [("x", "x"), good, ("x", "x")],
             [("", "a"), ("t", "b"), ("t", "b")]]
    return no_lists() + [(("", "a"),), {("", "a")}] + lists + twice


class TestWrong(Case):
    def test_each_argument(self):
        loft = two_states()
        before = loft_state(loft)
        no_lofts = no_objects() + [Loft, "a", loft_state]
        no_rules = no_names() + ["Alone", "alone ", "eldests", "all", "", "place", None, Stranger(), ["even"],
                                 ("even",)]
        for function in (owners, common):
            self.wrong_in_each_way(function, [loft], [no_lofts])
        for grain in (0, 99):
            self.wrong_in_each_way(holders, [loft, grain], [no_lofts, no_grains()])
        for rule in RULES:
            self.wrong_in_each_way(owes, [loft, rule], [no_lofts, no_rules])
        for some in ([], [("", "b")], [("x", "x")]):
            self.wrong_in_each_way(freed_by, [loft, some], [no_lofts, no_owner_lists()])
        self.assertEqual(loft_state(loft), before)

    def test_asking_changes_nothing(self):
        loft = two_states()
        before = loft_state(loft)
        told = [[owners(loft), common(loft), [owes(loft, rule) for rule in RULES], freed_by(loft, owners(loft))]
                for _ in range(3)]
        self.assertEqual(told[0], told[1])
        self.assertEqual(told[1], told[2])
        self.assertEqual(loft_state(loft), before)


if __name__ == "__main__":
    unittest.main()
