import itertools
import unittest

from scriptpicks.atoms import fits_fact, patterns_of
from scriptpicks.picks import (bare, home_of, is_pick, is_single, name_of, pattern_of, picked, picks_to, place_of,
                               surely)
from tests.values import deep_pick, odd_values

ROWS = [("h", (("eq", "a", "b"),)), ("k", (("lt", "b", "c"), ("eq", "c", "d"))), ("h", (("gt", "e", "d"),))]
BARE = [("name", "h"), ("name", "abcdefgh"), ("at", 0), ("at", 5), ("at", 10 ** 59), ("last",), ("like", ("", "", "")),
        ("like", ("eq", "a", "")), ("all", ("", "", "")), ("all", ("lt", "", "b")), ("name", "last"), ("name", "book")]
IN_BOOK = [("book", pick) for pick in BARE]


class KindsTest(unittest.TestCase):
    def test_is_pick(self):
        for pick in BARE + IN_BOOK:
            self.assertIs(is_pick(pick), True, pick)

    def test_is_no_pick(self):
        bad = [("name", ""), ("name", "A"), ("name", "abcdefghi"), ("name", 1), ("name", None), ("name", ["h"]), ("name",),
               ("name", "h", "k"), ["name", "h"], ("at", -1), ("at", True), ("at", False), ("at", "0"), ("at", None), ("at",),
               ("at", 0, 1), ["at", 0], ("at", [0]), ("at", -10 ** 59), ("last", 0), ("last", ()), ["last"], "last", ("last"),
               ("first",), ("", "h"), ("like",), ("like", ("eq", "a")), ("like", ["eq", "a", ""]), ("like", "eq"),
               ("like", ("ne", "", "")), ("like", "", "", ""), ("like", ("", "", ""), 0), ("all",), ("all", ()),
               ("all", ("", "A", "")), ["all", ("", "", "")], ("all", "h"), ("book",), ("book", "last"), ("book", None),
               ("book", ["last"]), ("book", ("last",), 0), ["book", ("last",)], ("book", "name", "h"), ("book", ("at", -1)),
               ("book", ("at", True)), ("book", ("book", ("last",))), ("book", ("book", ("at", 0))), ("goal", ("last",)),
               ("like", ("all", ("", "", ""))), ("name", ("name", "h")), (), (("last",),), (("name", "h"),), ("like", None),
               (None, "h"), (["name"], "h"), ({}, "h"), (b"last",), deep_pick(2), deep_pick(19), ("book", deep_pick(1)),
               ("LAST",), ("Name", "h"), ("like", ("", "", None)), ("all", {}), {"at": 0}, {"last"}, ("turn", ("last",))]
        for thing in bad + odd_values():
            with self.subTest(thing=repr(thing)[:60]):
                self.assertIs(is_pick(thing), False)

    def test_is_single(self):
        for pick in BARE:
            self.assertIs(is_single(pick), pick[0] != "all")
            self.assertIs(is_single(("book", pick)), pick[0] != "all")

    def test_home_of(self):
        for pick in BARE:
            self.assertEqual(home_of(pick), "goal")
            self.assertEqual(home_of(("book", pick)), "book")

    def test_bare(self):
        for pick in BARE:
            self.assertEqual(bare(pick), pick)
            self.assertEqual(bare(("book", pick)), pick)

    def test_what_stands_in_them(self):
        table = [(("name", "h"), ("h", None, None)), (("at", 0), (None, 0, None)), (("at", 7), (None, 7, None)),
                 (("last",), (None, None, None)), (("like", ("", "a", "")), (None, None, ("", "a", ""))),
                 (("all", ("lt", "", "")), (None, None, ("lt", "", ""))), (("like", ("", "", "")), (None, None, ("", "", "")))]
        for pick, told in table:
            self.assertEqual((name_of(pick), place_of(pick), pattern_of(pick)), told)
            pick = ("book", pick)
            self.assertEqual((name_of(pick), place_of(pick), pattern_of(pick)), told)
        self.assertIs(type(place_of(("at", 0))), int)


class PickedTest(unittest.TestCase):
    def test_by_name_the_last_one(self):
        self.assertEqual(picked(("name", "h"), ROWS), [2])
        self.assertEqual(picked(("name", "h"), ROWS[:2]), [0])
        self.assertEqual(picked(("name", "k"), ROWS), [1])
        self.assertEqual(picked(("name", "m"), ROWS), [])
        self.assertEqual(picked(("name", "a"), ROWS), [])

    def test_by_index(self):
        self.assertEqual([picked(("at", at), ROWS) for at in range(5)], [[0], [1], [2], [], []])
        self.assertEqual(picked(("at", 10 ** 59), ROWS), [])

    def test_last(self):
        self.assertEqual([picked(("last",), ROWS[:many]) for many in range(4)], [[], [0], [1], [2]])

    def test_like_and_all(self):
        table = {("", "", ""): [0, 1, 2], ("eq", "", ""): [0, 1], ("lt", "", ""): [1], ("gt", "", ""): [2],
                 ("", "", "d"): [1, 2], ("", "b", ""): [1], ("", "c", ""): [1], ("lt", "c", ""): [], ("eq", "a", "b"): [0],
                 ("", "", "e"): [], ("", "z", ""): [], ("eq", "", "d"): [1], ("lt", "", "d"): [], ("", "", "b"): [0]}
        for pattern, expected in table.items():
            self.assertEqual(picked(("all", pattern), ROWS), expected)
            self.assertEqual(picked(("like", pattern), ROWS), expected[-1:])

    def test_no_rows(self):
        for pick in BARE:
            self.assertEqual(picked(pick, []), [])

    def test_same_rows_twice(self):
        rows = [ROWS[0], ROWS[0], ROWS[0]]
        self.assertEqual(picked(("name", "h"), rows), [2])
        self.assertEqual(picked(("like", ("eq", "a", "b")), rows), [2])
        self.assertEqual(picked(("all", ("eq", "a", "b")), rows), [0, 1, 2])
        self.assertEqual(picked(("at", 1), rows), [1])

    def test_new_lists_and_unchanged_rows(self):
        rows = list(ROWS)
        for pick in BARE:
            told = picked(pick, rows)
            before = list(told)
            told.append(9)
            self.assertEqual(picked(pick, rows), before)
        self.assertEqual(rows, ROWS)


class PicksToTest(unittest.TestCase):
    def test_the_only_row(self):
        told = picks_to([("h", (("eq", "a", "b"),))], 0)
        expected = [("at", 0), ("last",)] + [("like", pattern) for pattern in patterns_of(("eq", "a", "b"))] + [("name", "h")]
        self.assertEqual(told, expected)
        self.assertEqual(len(told), 11)

    def test_three_rows(self):
        self.assertEqual(picks_to(ROWS, 0), [
            ("at", 0), ("like", ("", "", "b")), ("like", ("", "a", "")), ("like", ("", "a", "b")),
            ("like", ("eq", "", "b")), ("like", ("eq", "a", "")), ("like", ("eq", "a", "b"))])
        self.assertEqual(picks_to(ROWS, 1), [
            ("at", 1), ("like", ("", "", "c")), ("like", ("", "b", "")), ("like", ("", "b", "c")), ("like", ("", "c", "")),
            ("like", ("", "c", "d")), ("like", ("eq", "", "")), ("like", ("eq", "", "d")), ("like", ("eq", "c", "")),
            ("like", ("eq", "c", "d")), ("like", ("lt", "", "")), ("like", ("lt", "", "c")), ("like", ("lt", "b", "")),
            ("like", ("lt", "b", "c")), ("name", "k")])
        self.assertEqual(picks_to(ROWS, 2)[-1], ("name", "h"))
        self.assertEqual(len(picks_to(ROWS, 2)), 11)

    def test_hidden_rows(self):
        rows = [ROWS[0], ("k", ROWS[0][1]), ROWS[0]]
        self.assertEqual(picks_to(rows, 0), [("at", 0)])
        self.assertEqual(picks_to(rows, 1), [("at", 1), ("name", "k")])
        self.assertEqual(len(picks_to(rows, 2)), 11)

    def test_against_the_definition(self):
        facts = [(("eq", "a", "b"),), (("lt", "a", "b"), ("lt", "b", "a")), (("eq", "a", "b"), ("gt", "b", "a"))]
        rows_there_are = list(itertools.product("hk", facts))
        for rows in itertools.chain(*[itertools.product(rows_there_are, repeat=many) for many in (1, 2, 3)]):
            for at in range(len(rows)):
                tried = {("name", rows[at][0]), ("at", at), ("last",)}
                tried |= {("like", pattern) for atom in rows[at][1] for pattern in patterns_of(atom)}
                expected = sorted(pick for pick in tried if picked(pick, list(rows)) == [at])
                self.assertEqual(picks_to(list(rows), at), expected)

    def test_new_each_time(self):
        told = picks_to(ROWS, 0)
        told.clear()
        self.assertEqual(len(picks_to(ROWS, 0)), 7)


def all_of_rows():
    """Return lists of rows in which each pick of SURELY can be led away from each other one."""
    atoms = list(itertools.product(["eq", "lt"], "ac", "bd"))
    facts = [(atom,) for atom in atoms] + [(atoms[0], atoms[7]), (atoms[3], atoms[1]), (atoms[5], atoms[0])]
    some = list(itertools.product("hk", facts))
    few = list(itertools.product("hk", [(("eq", "a", "b"),), (("lt", "c", "d"),), (("eq", "c", "b"), ("lt", "a", "b"))]))
    for many in (1, 2):
        yield from itertools.product(some, repeat=many)
    yield from itertools.product(few, repeat=3)


SURELY = [("name", "h"), ("name", "k"), ("at", 0), ("at", 1), ("last",)]
SURELY += [(kind, pattern) for kind in ("like", "all") for pattern in [
    ("", "", ""), ("eq", "", ""), ("", "a", ""), ("", "", "b"), ("eq", "a", ""), ("", "a", "b"), ("eq", "a", "b"),
    ("lt", "", "b"), ("lt", "c", "d")]]


class SurelyTest(unittest.TestCase):
    def test_single_picks(self):
        self.assertIs(surely(("last",), ("like", ("", "", ""))), True)
        self.assertIs(surely(("like", ("", "", "")), ("last",)), True)
        self.assertIs(surely(("like", ("eq", "", "")), ("last",)), False)
        self.assertIs(surely(("last",), ("like", ("eq", "", ""))), False)
        self.assertIs(surely(("name", "h"), ("name", "h")), True)
        self.assertIs(surely(("name", "h"), ("name", "k")), False)
        self.assertIs(surely(("name", "h"), ("last",)), False)
        self.assertIs(surely(("at", 3), ("at", 3)), True)
        self.assertIs(surely(("at", 3), ("at", 4)), False)
        self.assertIs(surely(("at", 0), ("last",)), False)
        self.assertIs(surely(("like", ("eq", "a", "b")), ("like", ("eq", "a", ""))), False)

    def test_all(self):
        anything = ("all", ("", "", ""))
        for pick in BARE:
            self.assertIs(surely(pick, anything), True)
        self.assertIs(surely(("like", ("eq", "a", "")), ("all", ("", "a", ""))), True)
        self.assertIs(surely(("all", ("eq", "a", "")), ("all", ("", "a", ""))), True)
        self.assertIs(surely(("like", ("", "a", "")), ("all", ("eq", "a", ""))), False)
        self.assertIs(surely(("all", ("", "a", "")), ("all", ("eq", "a", ""))), False)
        self.assertIs(surely(("name", "h"), ("all", ("eq", "", ""))), False)
        self.assertIs(surely(("last",), ("all", ("eq", "", ""))), False)
        for pick in BARE:
            self.assertIs(surely(anything, pick), pick == anything)
        self.assertIs(surely(("all", ("eq", "a", "b")), ("like", ("eq", "a", "b"))), False)

    def test_against_many_rows(self):
        reached = []
        for rows in all_of_rows():
            rows = list(rows)
            reached.append([frozenset(picked(pick, rows)) for pick in SURELY])
        for one, other in itertools.product(range(len(SURELY)), repeat=2):
            expected = all(told[one] <= told[other] for told in reached)
            self.assertIs(surely(SURELY[one], SURELY[other]), expected, (SURELY[one], SURELY[other]))

    def test_rows_fit_what_is_liked(self):
        for rows in all_of_rows():
            for pattern in [("eq", "", ""), ("", "a", "b")]:
                expected = [at for at, row in enumerate(rows) if fits_fact(pattern, row[1])]
                self.assertEqual(picked(("all", pattern), list(rows)), expected)
