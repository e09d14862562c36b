import itertools
import unittest

from scriptpicks.atoms import (atoms_of, both, chained, fits, fits_fact, is_atom, is_fact, is_pattern, is_row,
                               narrower, patterns_of, turned, turned_fact, turned_pattern)
from scriptpicks.words import fresh
from tests.values import check_kind, odd_values

RELATIONS = ["eq", "lt", "gt"]
ATOMS = list(itertools.product(RELATIONS, "abcd", "abcd"))
PATTERNS = list(itertools.product([""] + RELATIONS, ["", "a", "b"], ["", "a", "b"]))
GOOD_ATOMS = [("eq", "a", "b"), ("lt", "a", "a"), ("gt", "abcdefgh", "z"), ("eq", "eq", "lt")]
BAD_ATOMS = [
    ("", "a", "b"), ("eq", "", "b"), ("eq", "a", ""), ("", "", ""), ("le", "a", "b"), ("EQ", "a", "b"), ("eq", "A", "b"),
    ("eq", "a", "B"), ("eq", "abcdefghi", "b"), ("eq", "a", "abcdefghi"), ("a", "eq", "b"), ["eq", "a", "b"],
    ("eq", "a"), ("eq", "a", "b", "c"), (), "eqab", "eab", ("eq", 1, "b"), ("eq", "a", 1), ("eq", "a", True),
    ("eq", "a", ["b"]), ("eq", ("a",), "b"), (["eq"], "a", "b"), {"eq": 1, "a": 2, "b": 3}, ("eq", "a", "b\n"),
    (("eq", "a", "b"),), (b"eq", "a", "b"), ("eq", "a", None),
]


class KindsTest(unittest.TestCase):
    def test_is_atom(self):
        check_kind(self, is_atom, GOOD_ATOMS, BAD_ATOMS + odd_values())

    def test_is_fact(self):
        one, two = GOOD_ATOMS[:2]
        good = [(atom,) for atom in GOOD_ATOMS] + [(one, two), (one, one), (two, one)]
        bad = [(), [one], [one, two], (one, two, one), (one, one, one), one, (one, None), (None, one), (one, [])]
        bad += [(list(one),), (one, list(two)), ((one, two),), {one}, {one: two}, "ab", [], (one, ("", "a", "b"))]
        check_kind(self, is_fact, good, bad + [(atom,) for atom in BAD_ATOMS] + [(one, atom) for atom in BAD_ATOMS])
        check_kind(self, is_fact, [], odd_values())

    def test_is_pattern(self):
        bad = [["", "", ""], ("", ""), ("", "", "", ""), (), "", ("le", "", ""), ("EQ", "", ""), ("", "A", ""),
               ("", "", "B"), ("", "abcdefghi", ""), ("", "", "abcdefghi"), ("a", "", ""), (None, "", ""), ("", None, ""),
               ("", "", None), ("", "", 0), (False, "", ""), ("", [], ""), ([], "", ""), ((), "", ""), ("", "", {}),
               ("eq", "eq", "eq", "eq"), ("?", "", ""), ("", "?", ""), ("", "", " "), (b"", "", "")]
        check_kind(self, is_pattern, PATTERNS + GOOD_ATOMS + [("", "", "abcdefgh")], bad + odd_values())

    def test_is_row(self):
        one, two = GOOD_ATOMS[:2]
        good = [("h", (one,)), ("abcdefgh", (one, two)), ("goal", (one, one))]
        bad = [["h", (one,)], ("h", [one]), ("h", ()), ("h", one), ("h", (one, two, one)), ("", (one,)), ("H", (one,)),
               ("abcdefghi", (one,)), ("h",), ("h", (one,), ()), ("h", (one,), "x"), (one, "h"), ((one,), "h"),
               ("h", None), (None, (one,)), (True, (one,)), (1, (one,)), (["h"], (one,)), ("h", (list(one),)),
               ("h", (("", "a", "b"),)), {"h": (one,)}, (), "hx", {"h", (one,)}, ("h", ((one,),))]
        check_kind(self, is_row, good, bad + [("h", (atom,)) for atom in BAD_ATOMS] + odd_values())


class TurnedTest(unittest.TestCase):
    def test_turned(self):
        self.assertEqual(turned(("eq", "a", "b")), ("eq", "b", "a"))
        self.assertEqual(turned(("lt", "a", "b")), ("gt", "b", "a"))
        self.assertEqual(turned(("gt", "a", "b")), ("lt", "b", "a"))
        self.assertEqual(turned(("lt", "a", "a")), ("gt", "a", "a"))

    def test_turned_twice(self):
        for atom in ATOMS:
            self.assertEqual(turned(turned(atom)), atom)

    def test_turned_fact_keeps_the_order(self):
        self.assertEqual(turned_fact((("lt", "a", "b"),)), (("gt", "b", "a"),))
        self.assertEqual(turned_fact((("gt", "a", "b"), ("eq", "c", "d"))), (("lt", "b", "a"), ("eq", "d", "c")))

    def test_turned_pattern(self):
        self.assertEqual(turned_pattern(("lt", "a", "")), ("gt", "", "a"))
        self.assertEqual(turned_pattern(("", "a", "b")), ("", "b", "a"))
        self.assertEqual(turned_pattern(("eq", "", "")), ("eq", "", ""))
        self.assertEqual(turned_pattern(("", "", "")), ("", "", ""))

    def test_turned_atoms_fit_turned_patterns(self):
        for pattern in PATTERNS:
            for atom in ATOMS:
                self.assertIs(fits(turned_pattern(pattern), turned(atom)), fits(pattern, atom))


class FitsTest(unittest.TestCase):
    def test_each_part(self):
        atom = ("lt", "a", "b")
        for pattern in [("", "", ""), ("lt", "", ""), ("", "a", ""), ("", "", "b"), ("lt", "a", "b"), ("", "a", "b")]:
            self.assertIs(fits(pattern, atom), True)
        for pattern in [("gt", "", ""), ("eq", "a", "b"), ("", "b", ""), ("", "", "a"), ("lt", "a", "a"), ("lt", "b", "a"),
                        ("lt", "b", "b"), ("", "ab", "b")]:
            self.assertIs(fits(pattern, atom), False)

    def test_all_patterns_and_atoms(self):
        for pattern in PATTERNS:
            for atom in ATOMS:
                expected = all(part in ("", whole) for part, whole in zip(pattern, atom))
                self.assertIs(fits(pattern, atom), expected)

    def test_a_fact_fits_by_one_atom(self):
        fact = (("lt", "a", "b"), ("eq", "c", "d"))
        for pattern in [("lt", "a", "b"), ("eq", "", "d"), ("", "", ""), ("", "c", "")]:
            self.assertIs(fits_fact(pattern, fact), True)
        for pattern in [("lt", "c", ""), ("eq", "a", ""), ("", "a", "d"), ("gt", "", "")]:
            self.assertIs(fits_fact(pattern, fact), False)
        self.assertIs(fits_fact(("lt", "", ""), fact[1:]), False)
        self.assertIs(fits_fact(("eq", "", ""), fact[1:]), True)


class ChainedTest(unittest.TestCase):
    def test_relations(self):
        table = {("eq", "eq"): "eq", ("eq", "lt"): "lt", ("lt", "eq"): "lt", ("lt", "lt"): "lt", ("eq", "gt"): "gt",
                 ("gt", "eq"): "gt", ("gt", "gt"): "gt", ("lt", "gt"): None, ("gt", "lt"): None}
        for (one, other), relation in table.items():
            with self.subTest(one=one, other=other):
                expected = None if relation is None else (relation, "a", "c")
                self.assertEqual(chained((one, "a", "b"), (other, "b", "c")), expected)

    def test_names_have_to_meet(self):
        self.assertIsNone(chained(("eq", "a", "b"), ("eq", "c", "d")))
        self.assertIsNone(chained(("eq", "a", "b"), ("eq", "a", "b")))
        self.assertIsNone(chained(("lt", "a", "b"), ("lt", "c", "b")))
        self.assertIsNone(chained(("eq", "b", "c"), ("eq", "a", "b")))
        self.assertEqual(chained(("eq", "a", "a"), ("lt", "a", "a")), ("lt", "a", "a"))
        self.assertEqual(chained(("lt", "a", "b"), ("lt", "b", "a")), ("lt", "a", "a"))


class NarrowerTest(unittest.TestCase):
    def test_direction(self):
        self.assertIs(narrower(("lt", "a", ""), ("", "a", "")), True)
        self.assertIs(narrower(("", "a", ""), ("lt", "a", "")), False)
        self.assertIs(narrower(("", "", ""), ("", "", "")), True)
        self.assertIs(narrower(("", "", ""), ("eq", "", "")), False)
        self.assertIs(narrower(("lt", "a", "b"), ("gt", "a", "b")), False)

    def test_all_patterns(self):
        for one, other in itertools.product(PATTERNS, repeat=2):
            expected = all(fits(other, atom) for atom in ATOMS if fits(one, atom))
            self.assertIs(narrower(one, other), expected, (one, other))


class BothTest(unittest.TestCase):
    def test_some(self):
        self.assertEqual(both(("lt", "", ""), ("", "a", "")), ("lt", "a", ""))
        self.assertEqual(both(("", "", ""), ("", "", "")), ("", "", ""))
        self.assertEqual(both(("eq", "a", "b"), ("", "", "b")), ("eq", "a", "b"))
        self.assertIsNone(both(("lt", "", ""), ("gt", "", "")))
        self.assertIsNone(both(("", "a", ""), ("lt", "b", "")))
        self.assertIsNone(both(("", "", "a"), ("lt", "a", "b")))

    def test_all_patterns(self):
        for one, other in itertools.product(PATTERNS, repeat=2):
            result = both(one, other)
            expected = [atom for atom in ATOMS if fits(one, atom) and fits(other, atom)]
            if result is None:
                self.assertEqual(expected, [])
            else:
                self.assertTrue(is_pattern(result))
                self.assertEqual([atom for atom in ATOMS if fits(result, atom)], expected)


class PatternsOfTest(unittest.TestCase):
    def test_whole_list(self):
        self.assertEqual(patterns_of(("lt", "a", "b")), [
            ("", "", ""), ("", "", "b"), ("", "a", ""), ("", "a", "b"),
            ("lt", "", ""), ("lt", "", "b"), ("lt", "a", ""), ("lt", "a", "b")])

    def test_one_name_twice(self):
        self.assertEqual(patterns_of(("eq", "a", "a")), [
            ("", "", ""), ("", "", "a"), ("", "a", ""), ("", "a", "a"),
            ("eq", "", ""), ("eq", "", "a"), ("eq", "a", ""), ("eq", "a", "a")])

    def test_ascending_and_fitting(self):
        for atom in ATOMS + [("gt", "z", "abcdefgh")]:
            found = patterns_of(atom)
            self.assertEqual(found, sorted(found))
            self.assertTrue(all(fits(pattern, atom) for pattern in found))
            self.assertEqual(len(set(found)), 8)

    def test_new_each_time(self):
        found = patterns_of(("eq", "a", "b"))
        found.clear()
        self.assertEqual(len(patterns_of(("eq", "a", "b"))), 8)


def classes_by_hand(patterns):
    names = sorted({part for pattern in patterns for part in pattern[1:]} - {""})
    names = sorted(names + [fresh(names)])
    least = {}
    for atom in sorted(itertools.product(RELATIONS, names, names)):
        other = turned(atom)
        told = tuple(fits(pattern, atom) for pattern in patterns), tuple(fits(pattern, other) for pattern in patterns)
        least.setdefault(told, atom)
    return sorted(least.values())


class AtomsOfTest(unittest.TestCase):
    def test_small_lists(self):
        self.assertEqual(atoms_of([]), [("eq", "a", "a")])
        self.assertEqual(atoms_of([("", "", "")]), [("eq", "a", "a")])
        self.assertEqual(atoms_of([("lt", "", "")]), [("eq", "a", "a"), ("gt", "a", "a"), ("lt", "a", "a")])
        self.assertEqual(atoms_of([("eq", "", "")]), [("eq", "a", "a"), ("gt", "a", "a")])
        self.assertEqual(atoms_of([("eq", "a", "")]), [
            ("eq", "a", "a"), ("eq", "a", "b"), ("eq", "b", "a"), ("eq", "b", "b")])
        self.assertEqual(atoms_of([("", "a", "")]), [("eq", "a", "a"), ("eq", "a", "b"), ("eq", "b", "a"), ("eq", "b", "b")])

    def test_the_fresh_name_is_the_least_that_is_free(self):
        self.assertEqual(atoms_of([("eq", "b", "b")]), [("eq", "a", "a"), ("eq", "b", "b")])
        self.assertEqual(atoms_of([("", "", "c"), ("", "a", "")])[0], ("eq", "a", "a"))
        self.assertIn(("eq", "b", "b"), atoms_of([("", "", "c"), ("", "a", "")]))

    def test_turned_atoms_tell_classes_apart(self):
        self.assertEqual(atoms_of([("lt", "a", "b")]), [("eq", "a", "a"), ("gt", "b", "a"), ("lt", "a", "b")])

    def test_against_the_definition(self):
        some = [("", "", ""), ("eq", "", ""), ("lt", "", ""), ("gt", "", "a"), ("", "a", ""), ("eq", "a", "b"),
                ("lt", "b", ""), ("", "b", "b"), ("gt", "c", "a"), ("", "", "d")]
        for many in range(4):
            for patterns in itertools.combinations(some, many):
                with self.subTest(patterns=patterns):
                    self.assertEqual(atoms_of(list(patterns)), classes_by_hand(patterns))

    def test_order_and_repeats_mean_nothing(self):
        patterns = [("lt", "b", ""), ("eq", "", "a"), ("lt", "b", "")]
        self.assertEqual(atoms_of(patterns), atoms_of(sorted(set(patterns))))
        self.assertEqual(patterns, [("lt", "b", ""), ("eq", "", "a"), ("lt", "b", "")])

    def test_new_each_time(self):
        found = atoms_of([("lt", "", "")])
        found.clear()
        self.assertEqual(len(atoms_of([("lt", "", "")])), 3)
