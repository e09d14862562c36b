import copy
import itertools
import random
import unittest

from scriptpicks.atoms import turned
from scriptpicks.errors import Stopped
from scriptpicks.runs import closes, ends, walk
from scriptpicks.scripts import Script
from scriptpicks.starts import Start
from scriptpicks.truths import all_hold, apart, closing, follows, holds, possible, ring, trail
from tests.test_runs import runs

RELATIONS = ("eq", "lt", "gt")
LONG = 10 ** 59


def row(*atoms):
    return ("r", tuple(atoms))


def some_rows(chance, names, most):
    """Return rows of one or two atoms between the names."""
    def atom():
        return (chance.choice(RELATIONS + ("eq",)), chance.choice(names), chance.choice(names))
    return [row(*[atom() for _ in range(chance.choice((1, 1, 2)))]) for _ in range(chance.randrange(most + 1))]


def names_in(rows, *more):
    return sorted({name for _, fact in rows for atom in fact + more for name in atom[1:]} | {
        name for atom in more for name in atom[1:]})


def all_values(names):
    """Yield enough values: all orders of the names, equal ones too."""
    for numbers in itertools.product(range(len(names)), repeat=len(names)):
        yield dict(zip(names, numbers))


def says(atom, values):
    one, other = values[atom[1]], values[atom[2]]
    return {"eq": one == other, "lt": one < other, "gt": one > other}[atom[0]]


def closure(rows):
    """Return the set of (left, right, is_less) for which there is a way that is not empty."""
    told = set()
    for _, fact in rows:
        for atom in fact:
            for relation, left, right in (atom, turned(atom)):
                if relation != "gt":
                    told.add((left, right, relation == "lt"))
    while True:
        more = {(a, d, one or other) for a, b, one in told for c, d, other in told if b == c} - told
        if not more:
            return told
        told |= more


def way_there(rows, atom):
    relation, left, right = turned(atom) if atom[0] == "gt" else atom
    return (left, right, relation == "lt") in closure(rows)


class TruthsTest(unittest.TestCase):
    def assert_way(self, rows, found):
        """Check that a list is a way, and return where it begins and ends, and whether it has a less."""
        self.assertIsInstance(found, list)
        atoms = []
        for link in found:
            self.assertEqual([type(part) for part in link], [int, int, bool])
            self.assertTrue(link[0] >= 0 and link[1] >= 0)
            atom = rows[link[0]][1][link[1]]
            atoms.append(turned(atom) if link[2] else atom)
        for one, other in zip(atoms, atoms[1:]):
            self.assertEqual(one[2], other[1])
        self.assertTrue(all(atom[0] in ("eq", "lt") for atom in atoms))
        return atoms[0][1], atoms[-1][2], any(atom[0] == "lt" for atom in atoms)

    def assert_ring(self, rows, found):
        self.assertNotEqual(found, [])
        first, last, is_less = self.assert_way(rows, found)
        self.assertEqual((first, is_less), (last, True))

    def assert_trail(self, rows, atom, found):
        relation, left, right = turned(atom) if atom[0] == "gt" else atom
        if found == []:
            self.assertEqual((relation, left), ("eq", right))
        else:
            self.assertEqual(self.assert_way(rows, found), (left, right, relation == "lt"))

    def assert_values(self, rows, values, names):
        self.assertEqual(list(values), names)
        self.assertTrue(all(type(value) is int for value in values.values()))
        self.assertTrue(all(says(atom, values) for _, fact in rows for atom in fact))

    def test_holds(self):
        for one, other in itertools.product([-LONG, -1, 0, 1, LONG, LONG + 1], repeat=2):
            values = {"b": one, "a": other, "zz": 7}
            self.assertIs(holds(("eq", "b", "a"), values), one == other)
            self.assertIs(holds(("lt", "b", "a"), values), one < other)
            self.assertIs(holds(("gt", "b", "a"), values), one > other)
        self.assertIs(holds(("eq", "a", "a"), {"a": 3}), True)
        self.assertIs(holds(("lt", "a", "a"), {"a": 3}), False)

    def test_all_hold(self):
        values = {"a": LONG, "b": LONG + 1, "c": LONG + 1}
        less, same, more = ("lt", "a", "b"), ("eq", "b", "c"), ("gt", "a", "c")
        self.assertIs(all_hold([], {}), True)
        self.assertIs(all_hold([row(less), row(same, less)], values), True)
        self.assertIs(all_hold([row(less), row(same, more)], values), False)
        self.assertIs(all_hold([row(more, less)], values), False)

    def test_a_row_with_a_name_and_itself(self):
        self.assertEqual(list(possible([row(("eq", "a", "a"))])), ["a"])
        self.assertEqual(ring([row(("eq", "a", "a"))]), None)
        self.assertEqual(ring([row(("lt", "a", "a"))]), [(0, 0, False)])
        self.assertEqual(ring([row(("eq", "b", "b"), ("gt", "a", "a"))]), [(0, 1, True)])
        self.assertIsNone(possible([row(("gt", "a", "a"))]))
        self.assertIs(follows([], ("eq", "a", "a")), True)
        self.assertEqual(trail([], ("eq", "a", "a")), [])
        self.assertIsNone(apart([], ("eq", "a", "a")))
        for relation in ("lt", "gt"):
            self.assertIs(follows([], (relation, "a", "a")), False)
            self.assertIsNone(trail([], (relation, "a", "a")))
            self.assertEqual(list(apart([], (relation, "a", "a"))), ["a"])

    def test_without_rows(self):
        self.assertEqual(possible([]), {})
        self.assertIsNone(ring([]))
        for relation in RELATIONS:
            self.assertIsNone(trail([], (relation, "b", "a")))
            values = apart([], (relation, "b", "a"))
            self.assertEqual(list(values), ["a", "b"])
            self.assertFalse(says((relation, "b", "a"), values))

    def test_rings(self):
        rows = [row(("eq", "a", "b")), row(("gt", "c", "b"), ("lt", "c", "d")), row(("eq", "a", "d"))]
        self.assertIsNone(possible(rows))
        self.assert_ring(rows, ring(rows))
        for atom in [("lt", "x", "y"), ("eq", "x", "y"), ("gt", "y", "x")]:
            self.assertIs(follows(rows, atom), True)
            self.assertIsNone(trail(rows, atom))
            self.assertIsNone(apart(rows, atom))
        self.assert_trail(rows, ("lt", "a", "a"), trail(rows, ("lt", "a", "a")))
        self.assertEqual(trail(rows, ("eq", "a", "a")), [])

    def test_the_longest_chain(self):
        names = ["n" + chr(97 + number) for number in range(20)]
        atoms = [("lt", *pair) if at & 1 else ("gt", *pair[::-1]) for at, pair in enumerate(zip(names, names[1:]))]
        rows = [row(*atoms[at:at + 2]) for at in range(0, 19, 2)][::-1]
        self.assert_values(rows, possible(rows), names)
        self.assertEqual(len(trail(rows, ("lt", names[0], names[-1]))), 19)
        self.assertIsNone(trail(rows, ("eq", names[0], names[-1])))
        rows.append(row(("eq", names[-1], names[0])))
        self.assertIsNone(possible(rows))
        self.assert_ring(rows, ring(rows))

    def test_all_of_them_against_all_values(self):
        chance = random.Random(50)
        seen = set()
        for number in range(700):
            names = ["a", "b", "c", "d"][:2 + number % 3]
            rows = some_rows(chance, names, 3)
            before = copy.deepcopy(rows)
            told = names_in(rows)
            can = any(all(says(atom, values) for _, fact in rows for atom in fact) for values in all_values(told))
            values, found = possible(rows), ring(rows)
            self.assertEqual([values is None, found is None], [not can, can])
            if can:
                self.assert_values(rows, values, told)
                self.assertIs(all_hold(rows, values), True)
            else:
                self.assert_ring(rows, found)
            for atom in itertools.product(RELATIONS, names[:2], names[-1:]):
                seen.add(self.check_atom(rows, atom, found))
            self.assertEqual(rows, before)
        self.assertEqual(len(seen), 4)

    def check_atom(self, rows, atom, found):
        told = names_in(rows, atom)
        is_apart = any(all(says(one, values) for _, fact in rows for one in fact) and not says(atom, values)
                       for values in all_values(told))
        self.assertIs(follows(rows, atom), not is_apart)
        values, way = apart(rows, atom), trail(rows, atom)
        self.assertEqual(values is not None, is_apart)
        if is_apart:
            self.assert_values(rows, values, told)
            self.assertFalse(says(atom, values))
        if way is not None:
            self.assert_trail(rows, atom, way)
        self.assertEqual(way is not None, atom[0] == "eq" and atom[1] == atom[2] or way_there(rows, atom))
        self.assertEqual(not is_apart, way is not None or found is not None)
        return is_apart, way is not None, found is not None

    def test_new_results_each_time(self):
        rows = [row(("lt", "a", "b"))]
        for ask in [lambda: possible(rows), lambda: ring([row(("lt", "a", "a"))]), lambda: trail(rows, ("lt", "a", "b")),
                    lambda: apart(rows, ("eq", "a", "b")), lambda: trail(rows, ("eq", "a", "a"))]:
            self.assertEqual(ask(), ask())
            self.assertIsNot(ask(), ask())


class ClosingTest(unittest.TestCase):
    def assert_closing(self, goal, book, aim):
        start = Start(goal, book, aim)
        script = closing(start)
        self.assertIsInstance(script, Script)
        self.assertIs(closes(start, script), True)
        self.assertEqual(closing(start), closing(start))

    def test_ordinary(self):
        self.assert_closing([row(("lt", "a", "b"))], [], ("lt", "a", "b"))
        self.assert_closing([row(("lt", "a", "b"))], [], ("gt", "b", "a"))
        self.assert_closing([row(("gt", "b", "a"))], [], ("lt", "a", "b"))
        self.assert_closing([row(("gt", "b", "a"))], [], ("gt", "b", "a"))
        self.assert_closing([row(("eq", "x", "y"), ("eq", "b", "a"))], [], ("eq", "a", "b"))
        self.assert_closing([], [row(("eq", "b", "a"), ("eq", "b", "c"))], ("eq", "c", "a"))
        self.assert_closing([row(("lt", "a", "b"), ("gt", "d", "b"))], [row(("eq", "x", "y")), row(("eq", "e", "d"))],
                            ("gt", "e", "a"))

    def test_where_the_trail_would_be_empty(self):
        same = ("eq", "a", "a")
        self.assertEqual(trail([row(("eq", "a", "b"))], same), [])
        self.assert_closing([row(("eq", "a", "b"))], [], same)
        self.assert_closing([], [row(("lt", "c", "d"), ("eq", "b", "a"))], same)
        self.assert_closing([row(("lt", "x", "y")), row(same)], [], same)
        for goal in [[], [row(("lt", "a", "b"))], [row(("eq", "b", "b"))], [row(("lt", "a", "a"))]]:
            self.assertIsNone(closing(Start(goal, [], same)))
            self.assertIsNone(closing(Start([], goal, same)))

    def test_one_atom_in_both_directions(self):
        self.assert_closing([row(("eq", "a", "b"), ("lt", "b", "b"))], [], ("lt", "a", "a"))
        self.assert_closing([row(("eq", "a", "b"))], [row(("eq", "b", "c")), row(("gt", "c", "c"))], ("gt", "a", "a"))
        for one, other in [(("eq", "b", "a"), ("eq", "c", "b")), (("eq", "a", "b"), ("eq", "c", "b"))]:
            self.assert_closing([row(one), row(other, ("lt", "c", "c"))], [], ("lt", "a", "a"))
            self.assert_closing([row(("gt", "c", "c"), other)], [row(one)], ("gt", "a", "a"))

    def test_just_where_there_is_a_trail(self):
        chance = random.Random(51)
        told = {True: 0, False: 0}
        for number in range(600):
            names = ["a", "b", "c", "d", "e", "f"][:2 + number % 5]
            goal, book = some_rows(chance, names, 4), some_rows(chance, names, 3)
            aim = (chance.choice(RELATIONS), chance.choice(names), chance.choice(names))
            is_there = way_there(goal + book, aim)
            told[is_there] += 1
            if is_there:
                self.assert_closing(goal, book, aim)
            else:
                self.assertIsNone(closing(Start(goal, book, aim)))
        self.assertGreater(min(told.values()), 100)

    def test_all_atoms_of_full_homes(self):
        names = ["n" + chr(97 + number) for number in range(21)]
        atoms = [("lt", *pair) if at & 1 else ("gt", *pair[::-1]) for at, pair in enumerate(zip(names, names[1:]))]
        rows = [row(*atoms[at:at + 2]) for at in range(0, 20, 2)]
        self.assert_closing(rows[:6], rows[6:], ("gt", names[-1], names[0]))
        self.assertIsNone(closing(Start(rows[:6], rows[6:], ("lt", names[-1], names[0]))))


class TruthIsKeptTest(unittest.TestCase):
    def test_what_holds_holds_behind_each_step(self):
        rows = [("h", (("eq", "a", "b"),)), ("k", (("lt", "b", "c"), ("eq", "c", "d"))), ("h", (("gt", "e", "d"),))]
        start = Start(rows, [("trans", (("lt", "d", "e"),))], ("lt", "a", "c"))
        values = possible(rows + start.book())
        for script in runs():
            try:
                for goal in walk(start, script):
                    self.assertIs(all_hold(goal, values), True)
            except Stopped:
                continue

    def test_the_aim_of_what_closes_follows(self):
        chance = random.Random(52)
        many = 0
        for script in runs():
            rows = [("h", (("eq", "a", "b"),)), ("k", (("lt", "b", "c"), ("eq", "c", "d"))), ("h", (("gt", "e", "d"),))]
            book = [("trans", (("lt", "d", "e"),))]
            try:
                last = ends(Start(rows, book, ("eq", "a", "a")), script)
            except Stopped:
                continue
            for name, fact in last[-1:]:
                start = Start(rows, book, chance.choice(fact))
                closed = script + Script([("close", ("last",))])
                self.assertIs(closes(start, closed), True)
                self.assertIs(follows(start.goal() + start.book(), start.aim), True)
                self.assertIsNotNone(closing(start))
                many += 1
        self.assertGreater(many, 50)
