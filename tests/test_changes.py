import itertools
import random
import unittest

from scriptpicks.atoms import atoms_of, turned
from scriptpicks.changes import changes
from scriptpicks.classes import names_of
from scriptpicks.edits import edited
from scriptpicks.held import Held
from scriptpicks.licences import Licence
from scriptpicks.picks import bare
from scriptpicks.scripts import Script
from scriptpicks.starts import Start
from scriptpicks.steps import picks_of
from tests.models import HeldRun, Model, done_script
from tests.test_classes import barred
from tests.test_runs import ALL, H, K, LAST, ONE, SCRIPT, START, TWO, some_steps

SORTS = ("call", "more", "out", "part", "turn")
ROWS = [("goal", 0), ("goal", 1), ("goal", 2), ("book", 0), ("book", 1)]
FULL = Licence(**{sort: ROWS for sort in SORTS})
LESS = ("like", ("lt", "", ""))


def held(*steps):
    return Held(START, Script(list(steps)))


def mores(one, licence):
    """Return the atoms that `changes` is to add."""
    atoms = atoms_of(one.script().patterns() + licence.patterns() + [one.start().aim])
    return [atom for atom in atoms if not barred(licence, atom)]


def all_changes(one, licence, home, k, most=None):
    """Return the dict from the lists of rows, as tuples, to the lengths of the shortest edits: found by edits of drafts."""
    found, left = {}, [[]]
    names, atoms = names_of(one, licence), mores(one, licence)
    while left and (most is None or len(left[0]) <= most):
        edits = left.pop(0)
        draft = edited(one.start(), edits)
        rows = rows_of(draft, home, k)
        if rows in found:
            continue
        found[rows] = len(edits)
        for at in range(k, k + len(rows)):
            more = [(sort, home, at) for sort in ("out", "turn", "part")] + [("call", home, at, name) for name in names]
            more += [("more", home, at, atom, side) for atom in atoms for side in (0, 1)]
            left += [edits + [edit] for edit in more if licence.lets_all(one.start(), edits + [edit])]
    return found


def rows_of(draft, home, k):
    """Return what comes of a row of the start, as `changes` tells it, in a tuple."""
    rows = [row for row in draft.rows(home) if any(root[:2] == (home, k) for root in row[2])]
    return tuple((name, fact, tuple(root[2] if root[0] == home else -1 for root in roots)) for name, fact, roots in rows)


def ahead(run, index, number):
    """Return how many rows are ahead of what a pick meant."""
    return run.acts(index, run.script[index], run.goals[index])[number][0]


def run_under(one, edits):
    model = Model(one.start())
    assert all(model.do(edit) for edit in edits)
    return HeldRun(one.start(), one.script(), model)


class ChangesTest(unittest.TestCase):
    def check(self, one, licence, home, k, told):
        """Check each entry but for its being there, and the order."""
        before = run_under(one, [])
        places = one.script().places()
        for rows, edits, lost, misses, adds in told:
            self.assertEqual([type(part) for part in (rows, edits, misses, adds)], [list] * 4)
            self.assertIs(licence.lets_all(one.start(), edits), True)
            self.assertEqual(rows_of(edited(one.start(), edits), home, k), tuple(rows))
            self.assertTrue(all(edit[3] in names_of(one, licence) for edit in edits if edit[0] == "call"))
            self.assertTrue(all(edit[3] in mores(one, licence) for edit in edits if edit[0] == "more"))
            run = run_under(one, edits)
            self.assertEqual([lost, misses], [run.lost, run.misses_beside_at()])
            self.assertEqual([lost, one.lost(edits)], [one.lost(edits), run.lost])
            end = len(one.script()) if lost is None else lost
            self.assertEqual(adds, [(index, number, ahead(run, index, number) - ahead(before, index, number))
                                    for index, number in places if index < end])
            by_places = {index for index, number, many in adds if many != 0}
            self.assertEqual(one.misses(edits), sorted(by_places | set(misses)))
        self.assertEqual(told, sorted(told, key=lambda entry: (len(entry[1]), entry[0])))
        self.assertEqual(told[0][1], [])

    def rows_told(self, one, licence, home, k):
        told = changes(one, licence, home, k)
        self.check(one, licence, home, k, told)
        result = {tuple(entry[0]): len(entry[1]) for entry in told}
        self.assertEqual(len(result), len(told))
        return result

    def test_a_licence_that_allows_nothing(self):
        one = Held(START, SCRIPT)
        other = {sort: [row for row in ROWS if row != ("goal", 1)] for sort in SORTS}
        for licence in [Licence(), Licence(goal="any", book="any"), Licence(**other)]:
            self.assertEqual(changes(one, licence, "goal", 1), [([TWO + ((0, 1),)], [], None, [], [(1, 0, 0)])])
        self.assertEqual(changes(held(), Licence(), "book", 0), [([START.row("book", 0) + ((0,),)], [], None, [], [])])

    def test_one_sort_at_a_time(self):
        one = held(("turn", H), ("turn", K), ("turn", LESS))
        fact, back = ONE[1], (("eq", "b", "a"),)
        told = self.rows_told(one, Licence(out=ROWS), "goal", 0)
        self.assertEqual(told, {(ONE + ((0,),),): 0, (): 1})
        told = self.rows_told(one, Licence(turn=ROWS), "goal", 0)
        self.assertEqual(told, {(ONE + ((0,),),): 0, (("h", back, (0,)),): 1})
        told = self.rows_told(one, Licence(call=ROWS), "goal", 0)
        self.assertEqual(told, {((name, fact, (0,)),): int(name != "h") for name in ("h", "a", "k")})
        told = self.rows_told(one, Licence(call=ROWS, names=["h", "a"]), "goal", 0)
        self.assertEqual(told, {((name, fact, (0,)),): int(name != "h") for name in ("h", "b", "k")})
        told = self.rows_told(one, Licence(part=ROWS), "goal", 0)
        self.assertEqual(told, {(ONE + ((0,),),): 0})
        told = self.rows_told(one, Licence(part=ROWS), "goal", 1)
        parts = (("k", TWO[1][:1], (0,)), ("k", TWO[1][1:], (1,)))
        self.assertEqual(told, {(TWO + ((0, 1),),): 0, parts: 1})
        told = self.rows_told(one, Licence(more=ROWS), "goal", 1)
        self.assertEqual(told, {(TWO + ((0, 1),),): 0})
        told = self.rows_told(one, Licence(more=ROWS), "goal", 0)
        atoms = mores(one, Licence())
        expected = {(("h", (atom,) + fact, (-1, 0)),): 1 for atom in atoms}
        expected.update({(("h", fact + (atom,), (0, -1)),): 1 for atom in atoms})
        self.assertEqual(told, {(ONE + ((0,),),): 0, **expected})

    def test_mores_know_the_aim_and_what_is_barred(self):
        one = held(("turn", LAST))
        self.assertIn(START.aim, mores(one, Licence()))
        told = self.rows_told(one, Licence(more=ROWS), "goal", 0)
        self.assertIn((("h", ONE[1] + (START.aim,), (0, -1)),), told)
        # The facts of newcomers do not know the aim.
        self.assertEqual(len(told), 1 + 2 * len(atoms_of([START.aim])))
        self.assertEqual(len(self.rows_told(one, Licence(more=ROWS, patterns=[("", "", "")]), "goal", 0)), 1)
        less = Licence(more=ROWS, patterns=[("gt", "c", "a")])
        self.assertNotIn((("h", ONE[1] + (START.aim,), (0, -1)),), self.rows_told(one, less, "goal", 0))

    def test_all_sorts_of_a_row_of_one_atom(self):
        one = held(("turn", LESS), ("turn", H))
        told = self.rows_told(one, FULL, "goal", 0)
        self.assertEqual(told, all_changes(one, FULL, "goal", 0))
        fact, back, atom = ONE[1][0], turned(ONE[1][0]), ("lt", "a", "a")
        self.assertIn(atom, mores(one, FULL))
        # An atom that was added is turned with the row; one that is added behind a turn is not.
        for new, own in itertools.product((atom, turned(atom)), (fact, back)):
            self.assertIn((("h", (new, own), (-1, 0)),), told)
        self.assertEqual(told[(("a", (back, atom), (0, -1)),)], 3)
        self.assertEqual(told[()], 1)

    def test_all_sorts_of_a_row_of_two_atoms(self):
        one = held(("turn", LESS), ("turn", H), ("copy", ("book", LAST), "m"))
        for home in ("goal", "book"):
            told = self.rows_told(one, FULL, home, 1)
            self.assertEqual(told, all_changes(one, FULL, home, 1))
            name, (first, second) = START.row(home, 1)
            self.assertEqual(told[(("a", (second,), (1,)),)], 3)
            # It is shorter to turn the whole row, and to call it, ahead of the part.
            self.assertEqual(told[(("a", (turned(first),), (0,)), ("a", (turned(second),), (1,)))], 3)
            self.assertEqual(told[(("h", (turned(first),), (0,)), ("a", (turned(second),), (1,)))], 4)
            self.assertEqual(told[()], 1)
            self.assertEqual({rows[0][0] for rows in told if rows}, {"a", "h", name})

    def test_some_sorts_against_the_drafts(self):
        chance, steps = random.Random(79), some_steps()
        seen = {}
        for _ in range(60):
            one = Held(START, done_script(START, chance, steps, 4))
            sorts = {sort: [row for row in ROWS if chance.random() < 0.6] for sort in SORTS if chance.random() < 0.7}
            if chance.random() < 0.7:
                sorts.pop("more", None)
            licence = Licence(names=chance.sample(["h", "k", "m", "a"], 1), patterns=chance.sample([("eq", "", "")], 1), **sorts)
            for home, k in ROWS:
                told = self.rows_told(one, licence, home, k)
                limit = 2 if len(told) > 60 else None
                expected = all_changes(one, licence, home, k, limit)
                self.assertEqual({rows: many for rows, many in told.items() if limit is None or many <= limit}, expected)
                seen[len(told)] = True
        self.assertGreater(len(seen), 10)

    def test_lost_at_once(self):
        one = held(("turn", K), ("turn", ("at", 2)), ("turn", H))
        told = {tuple(entry[0]): entry[2:] for entry in changes(one, FULL, "goal", 1)}
        self.assertEqual(told[()], (0, [], []))
        self.assertEqual(told[(("k", TWO[1][:1], (0,)), ("k", TWO[1][1:], (1,)))], (0, [], []))
        self.assertEqual(told[(("a", TWO[1], (0, 1)),)], (None, [0], [(1, 0, 0)]))
        told = {tuple(entry[0]): entry[2:] for entry in changes(one, FULL, "goal", 0)}
        self.assertEqual(told[()], (None, [], [(1, 0, -1)]))
        told = {tuple(entry[0]): entry[2:] for entry in changes(one, FULL, "goal", 2)}
        self.assertEqual(told[()], (1, [], []))
        self.assertEqual(told[(("a", START.row("goal", 2)[1], (0,)),)], (None, [2], [(1, 0, 0)]))

    def test_what_is_meant_is_of_the_row_itself(self):
        one = held(("part", ("all", ("", "", "d"))), ("turn", ("at", 2)), ("turn", ("at", 3)))
        told = {tuple(entry[0]): entry[2:] for entry in changes(one, FULL, "goal", 1)}
        parts = (("k", TWO[1][:1], (0,)), ("k", TWO[1][1:], (1,)))
        # The first part does not fit, and is taken along as it was meant.
        self.assertEqual(told[parts], (None, [0], [(1, 0, 0), (2, 0, 0)]))
        self.assertEqual(told[parts[1:]], (0, [], []))
        one = held(("turn", ("at", 2)), ("drop", ("all", ("", "b", ""))), ("turn", ("at", 1)))
        told = {tuple(entry[0]): entry[2:] for entry in changes(one, FULL, "goal", 1)}
        self.assertEqual(told[parts], (None, [1], [(0, 0, 1), (2, 0, 0)]))

    def test_picks_by_at_in_the_goal_and_in_the_book(self):
        one = held(("copy", ("book", ("at", 1)), "m"), ("copy", ("book", ("all", ("lt", "", ""))), "p"), ("turn", ("at", 3)), ("turn", ("at", 4)), ("turn", ("at", 5)))
        # The copy of the row 0 stands ahead of that of the row 1.
        self.assertEqual({tuple(entry[0]): entry[2:] for entry in changes(one, FULL, "book", 0)}[()], (
            1, [], [(0, 0, -1)]))
        self.assertEqual({tuple(entry[0]): entry[2:] for entry in changes(one, FULL, "goal", 0)}[()], (
            None, [], [(0, 0, 0), (2, 0, -1), (3, 0, -1), (4, 0, -1)]))
        for home, k in ROWS:
            self.rows_told(one, FULL, home, k)

    def test_a_close(self):
        one = Held(START.with_aim(("eq", "c", "d")), Script([("copy", K, "m"), ("close", LAST)]))
        told = {tuple(entry[0]): entry[2:] for entry in changes(one, FULL, "goal", 1)}
        self.assertEqual(told[(("k", tuple(turned(atom) for atom in TWO[1]), (0, 1)),)], (1, [], []))
        self.assertEqual(told[(("a", TWO[1], (0, 1)),)], (None, [0], []))

    def test_all_rows_against_the_held_runs(self):
        chance, steps = random.Random(80), some_steps() + [("turn", ("at", at)) for at in range(1, 7)] * 4
        for _ in range(40):
            one = Held(START, done_script(START, chance, steps, 8))
            licence = FULL & Licence(**{sort: ROWS for sort in SORTS if sort != "more" or chance.random() < 0.3})
            for home, k in ROWS:
                self.rows_told(one, licence, home, k)

    def test_names_and_atoms_that_come_twice(self):
        start = Start([("a", (("eq", "a", "a"), ("eq", "a", "a")))], [], ("eq", "a", "a"))
        one = Held(start, Script([("turn", ALL)]))
        licence = Licence(turn=[("goal", 0)], part=[("goal", 0)], out=[("goal", 0)], call=[("goal", 0)])
        same = (("eq", "a", "a"),)
        told = changes(one, licence, "goal", 0)
        self.assertEqual([entry[:3] for entry in told[:3]], [
            ([("a", same * 2, (0, 1))], [], None), ([], [("out", "goal", 0)], 0),
            ([("a", same, (0,)), ("a", same, (1,))], [("part", "goal", 0)], None)])
        self.assertEqual({tuple(entry[0]) for entry in told[3:]}, {(("a", same, (0,)),), (("a", same, (1,)),)})

    def test_results_are_new(self):
        one = held(("turn", ("at", 0)), ("turn", H))
        told = changes(one, FULL, "goal", 0)
        lists = [part for entry in told for part in entry if isinstance(part, list)]
        self.assertEqual(len({id(part) for part in lists}), len(lists))
        for part in lists + [told]:
            part.clear()
        self.assertEqual(changes(one, FULL, "goal", 0)[0], ([ONE + ((0,),)], [], None, [], [(0, 0, 0)]))
