import copy
import itertools
import random
import types
import unittest

from scriptpicks.errors import Stopped
from scriptpicks.picks import is_single
from scriptpicks.runs import closes, ends, is_done, meant, owned, picks, walk
from scriptpicks.scripts import Script
from scriptpicks.starts import Start
from scriptpicks.steps import done, picks_of

ONE = ("h", (("eq", "a", "b"),))
TWO = ("k", (("lt", "b", "c"), ("eq", "c", "d")))
THREE = ("h", (("gt", "e", "d"),))
LAW = ("trans", (("lt", "d", "e"),))
PAIR = ("pair", (("eq", "e", "f"), ("lt", "f", "g")))
START = Start([ONE, TWO, THREE], [LAW, PAIR], ("lt", "a", "c"))
H, K, LAST, ALL = ("name", "h"), ("name", "k"), ("last",), ("all", ("", "", ""))
SCRIPT = Script([("part", K), ("chain", ("at", 0), ("like", ("lt", "b", "")), "t"), ("close", LAST)])
HALVES = [("k", (("lt", "b", "c"),)), ("k", (("eq", "c", "d"),))]
MADE = ("t", (("lt", "a", "c"),))
GOALS = [[ONE, TWO, THREE], [ONE] + HALVES + [THREE], [ONE] + HALVES + [THREE, MADE], [ONE] + HALVES + [THREE, MADE]]
ASKED = [ends, picks, owned, meant]


def some_steps():
    """Return steps of each kind, some of which stop many runs."""
    single = [H, K, LAST, ("at", 0), ("at", 4), ("like", ("lt", "", "")), ("like", ("", "", "c"))]
    many = single + [ALL, ("all", ("eq", "", "")), ("all", ("", "q", ""))]
    steps = [(kind, pick) for kind in ("turn", "part") for pick in many] + [("drop", pick) for pick in single]
    steps += [(kind, pick, name) for kind in ("call", "copy") for pick in single + many[-2:] for name in ("h", "m")]
    steps += [("copy", ("book", pick), "h") for pick in [LAST, ("at", 0), ALL, ("name", "trans"), ("all", ("eq", "", ""))]]
    return steps + [("chain", one, other, "k") for one, other in itertools.product(single, repeat=2)] * 2


def runs():
    """Yield many scripts, of which some runs stop."""
    chance, steps = random.Random(7), some_steps()
    for number in range(600):
        yield Script([chance.choice(steps) for _ in range(1 + number // 120)])


def lists_in(told):
    """Return all lists in a result, those inside it too."""
    found, left = [], [told]
    while left:
        part = left.pop()
        if isinstance(part, list):
            found.append(part)
            left.extend(part)
    return found


class RunsTest(unittest.TestCase):
    def assert_stopped(self, index, start, script, asked=tuple(ASKED)):
        for ask in asked:
            with self.subTest(ask=ask.__name__), self.assertRaises(Stopped) as caught:
                ask(start, script)
            self.assertEqual(caught.exception.index, index)
        self.assertIs(is_done(start, script), False)
        self.assertIs(closes(start, script), False)

    def test_the_example(self):
        self.assertEqual(list(walk(START, SCRIPT)), GOALS)
        self.assertEqual(ends(START, SCRIPT), GOALS[-1])
        self.assertEqual(picks(START, SCRIPT), [[[1]], [[0], [1]], [[4]]])
        self.assertIs(is_done(START, SCRIPT), True)
        self.assertIs(closes(START, SCRIPT), True)
        self.assertEqual(meant(START, SCRIPT), [
            [[("goal", 1, 0), ("goal", 1, 1)]], [[("goal", 0, 0)], [("goal", 1, 0)]], [[("made", 1)]]])

    def test_empty_scripts_and_goals(self):
        nothing = Script([])
        for start in [START, Start([], [], ("eq", "a", "a"))]:
            self.assertEqual(list(walk(start, nothing)), [start.goal()])
            self.assertEqual([ends(start, nothing), picks(start, nothing), meant(start, nothing)], [start.goal(), [], []])
            self.assertIs(is_done(start, nothing), True)
            self.assertIs(closes(start, nothing), False)
        empty = Start([], [], ("eq", "a", "a"))
        self.assertEqual(owned(empty, nothing), [[]])
        self.assertEqual(meant(empty, Script([("turn", ALL), ("copy", ("book", ALL), "m")])), [[[]], [[]]])
        self.assert_stopped(0, empty, Script([("turn", LAST)]))
        self.assert_stopped(1, empty, Script([("turn", ALL), ("copy", ("book", LAST), "m")]))

    def test_closes(self):
        closing = Start([("x", (("lt", "a", "c"),))], [], ("lt", "a", "c"))
        self.assertIs(closes(closing, Script([("close", LAST)])), True)
        self.assertIs(closes(closing, Script([("turn", LAST)])), False)
        self.assertIs(is_done(closing, Script([("turn", LAST)])), True)
        self.assert_stopped(1, closing, Script([("turn", LAST), ("close", LAST)]))
        self.assertIs(closes(closing, Script([("turn", LAST), ("turn", LAST), ("close", LAST)])), True)
        self.assert_stopped(0, closing, Script([("close", ("name", "y"))]))

    def test_stopped(self):
        for stop in [("turn", ("name", "q")), ("chain", H, K, "m"), ("close", K), ("copy", ("book", H), "m"), ("drop", ("at", 3))]:
            self.assert_stopped(0, START, Script([stop]))
            self.assert_stopped(1, START, Script([("turn", K), stop]))
            self.assert_stopped(2, START, Script([("turn", K), ("turn", ALL), stop]))
        self.assert_stopped(1, START, Script([("drop", K), ("turn", K), ("turn", ("name", "q"))]))

    def test_walk_is_a_generator(self):
        self.assertIsInstance(walk(START, SCRIPT), types.GeneratorType)
        run = walk(START, SCRIPT)
        self.assertIs(iter(run), run)
        self.assertEqual(next(run), GOALS[0])
        self.assertEqual(next(run), GOALS[1])
        run.close()
        self.assertEqual(ends(START, SCRIPT), GOALS[-1])

    def test_walk_raises_behind_the_goal_ahead_of_the_step(self):
        script = Script([("part", K), ("turn", ("name", "q")), ("turn", K)])
        run = walk(START, script)
        self.assertEqual([next(run), next(run)], GOALS[:2])
        with self.assertRaises(Stopped) as caught:
            next(run)
        self.assertEqual(caught.exception.index, 1)
        run = walk(START, Script([("turn", ("name", "q"))]))
        self.assertEqual(next(run), GOALS[0])
        with self.assertRaises(Stopped) as caught:
            next(run)
        self.assertEqual(caught.exception.index, 0)

    def test_two_walks_at_once(self):
        one, other = walk(START, SCRIPT), walk(START, SCRIPT)
        self.assertEqual([next(one), next(one), next(other)], [GOALS[0], GOALS[1], GOALS[0]])
        self.assertEqual([next(one), next(other)], [GOALS[2], GOALS[1]])

    def test_goals_of_a_walk_belong_to_the_caller(self):
        seen = []
        for goal in walk(START, SCRIPT):
            seen.append(list(goal))
            goal.clear()
        self.assertEqual(seen, GOALS)
        self.assertEqual(START.goal(), GOALS[0])
        goals = list(walk(START, Script([("turn", ("all", ("", "q", "")))])))
        self.assertIsNot(goals[0], goals[1])

    def test_results_are_new(self):
        for ask in ASKED:
            told = ask(START, SCRIPT)
            before = copy.deepcopy(told)
            for part in lists_in(told):
                part.clear()
            self.assertEqual(ask(START, SCRIPT), before)
        self.assertEqual(START, Start([ONE, TWO, THREE], [LAW, PAIR], ("lt", "a", "c")))
        self.assertEqual(len(SCRIPT), 3)

    def test_no_list_stands_twice(self):
        script = Script([("copy", ("book", LAST), "m"), ("call", LAST, "m"), ("turn", ("all", ("", "q", ""))),
                         ("chain", ("at", 3), LAST, "m"), ("close", LAST)])
        start = Start([ONE, TWO, THREE], [LAW, ("w", (("eq", "d", "d"),))], ("eq", "d", "d"))
        for ask in ASKED + [lambda one, other: list(walk(one, other))]:
            found = lists_in(ask(start, script))
            self.assertEqual(len({id(part) for part in found}), len(found))

    def test_runs_go_on_as_steps_do(self):
        for script in runs():
            goal, goals, chosen, stop = START.goal(), [START.goal()], [], None
            for index, step in enumerate(script.steps()):
                try:
                    goal, picked = done(goal, START.book(), step, START.aim)
                except ValueError:
                    stop = index
                    break
                goals.append(goal)
                chosen.append(picked)
            if stop is None:
                self.assertEqual(list(walk(START, script)), goals)
                self.assertEqual([ends(START, script), picks(START, script)], [goals[-1], chosen])
                self.assertIs(is_done(START, script), True)
            else:
                self.assert_stopped(stop, START, script)


class OwnedTest(unittest.TestCase):
    def behind(self, *steps, start=START):
        """Return the owners and roots of the rows of the last goal."""
        return [(owners, roots) for name, fact, owners, roots in owned(start, Script(list(steps)))[-1]]

    def test_the_example(self):
        one = ONE + ((("goal", 0, 0),), (("goal", 0, 0),))
        two = TWO + ((("goal", 1, 0), ("goal", 1, 1)), (("goal", 1, 0), ("goal", 1, 1)))
        halves = [HALVES[at] + ((("goal", 1, at),), (("goal", 1, at),)) for at in range(2)]
        three = THREE + ((("goal", 2, 0),), (("goal", 2, 0),))
        made = MADE + ((("made", 1),), (("made", ("goal", 0, 0), ("goal", 1, 0)),))
        parted = [one] + halves + [three]
        self.assertEqual(owned(START, SCRIPT), [[one, two, three], parted, parted + [made], parted + [made]])

    def test_the_beginning(self):
        rows = owned(START, Script([]))
        self.assertEqual([(name, fact) for name, fact, owners, roots in rows[0]], START.goal())
        self.assertEqual([owners for name, fact, owners, roots in rows[0]], START.owners("goal"))

    def test_turn_call_and_drop_keep_owners_and_roots(self):
        whole = [((("goal", 0, 0),),) * 2, ((("goal", 1, 0), ("goal", 1, 1)),) * 2, ((("goal", 2, 0),),) * 2]
        self.assertEqual(self.behind(("turn", ALL)), whole)
        self.assertEqual(self.behind(("call", ALL, "m")), whole)
        self.assertEqual(self.behind(("drop", K)), [whole[0], whole[2]])
        self.assertEqual(self.behind(("part", ("at", 0))), whole)

    def test_copies(self):
        owners, roots = self.behind(("copy", K, "m"))[-1]
        self.assertEqual(owners, (("copy", 0, ("goal", 1, 0)), ("copy", 0, ("goal", 1, 1))))
        self.assertEqual(roots, (("goal", 1, 0), ("goal", 1, 1)))
        owners, roots = self.behind(("turn", K), ("copy", ("book", LAST), "m"))[-1]
        self.assertEqual(owners, (("copy", 1, ("book", 1, 0)), ("copy", 1, ("book", 1, 1))))
        self.assertEqual(roots, (("book", 1, 0), ("book", 1, 1)))
        rows = self.behind(("copy", ("all", ("", "", "d")), "m"))
        self.assertEqual([row[0] for row in rows[3:]], [
            (("copy", 0, ("goal", 1, 0)), ("copy", 0, ("goal", 1, 1))), (("copy", 0, ("goal", 2, 0)),)])

    def test_parts_of_copies(self):
        rows = self.behind(("copy", K, "m"), ("part", LAST), ("copy", LAST, "n"))
        self.assertEqual(rows[3:], [
            ((("copy", 0, ("goal", 1, 0)),), (("goal", 1, 0),)),
            ((("copy", 0, ("goal", 1, 1)),), (("goal", 1, 1),)),
            ((("copy", 2, ("copy", 0, ("goal", 1, 1))),), (("goal", 1, 1),))])

    def test_chains_of_copies_and_copies_of_chains(self):
        start = Start([("x", (("eq", "a", "b"),))], [("y", (("lt", "b", "c"),))], ("lt", "a", "c"))
        rows = self.behind(("copy", ("book", LAST), "y"), ("copy", ("name", "x"), "z"), ("chain", LAST, ("name", "y"), "w"),
                           ("copy", LAST, "v"), start=start)
        root = ("made", ("goal", 0, 0), ("book", 0, 0))
        self.assertEqual(rows, [
            ((("goal", 0, 0),), (("goal", 0, 0),)), ((("copy", 0, ("book", 0, 0)),), (("book", 0, 0),)),
            ((("copy", 1, ("goal", 0, 0)),), (("goal", 0, 0),)), ((("made", 2),), (root,)),
            ((("copy", 3, ("made", 2)),), (root,))])

    def test_roots_of_a_chain_are_in_the_order_of_the_picks(self):
        start = Start([("y", (("lt", "b", "c"),)), ("x", (("eq", "a", "b"),))], [], ("lt", "a", "c"))
        rows = self.behind(("chain", ("name", "x"), ("name", "y"), "w"), start=start)
        self.assertEqual(rows[-1], ((("made", 0),), (("made", ("goal", 1, 0), ("goal", 0, 0)),)))

    def test_copies_of_copies(self):
        many = 40
        script = Script([("copy", LAST, "m")] * many)
        expected = ("goal", 2, 0)
        for number in range(many):
            expected = ("copy", number, expected)
        name, fact, owners, roots = owned(START, script)[-1][-1]
        self.assertEqual((name, fact, owners, roots), ("m", THREE[1], (expected,), (("goal", 2, 0),)))
        self.assertEqual(meant(START, script)[-1], [[expected[2]]])

    def test_chains_of_chains(self):
        many = 39
        start = Start([("x", (("eq", "a", "a"),))], [], ("eq", "a", "a"))
        script = Script([("chain", LAST, LAST, "m")] * many + [("close", LAST)])
        goals = owned(start, script)
        self.assertEqual([len(goal) for goal in goals], list(range(1, many + 2)) + [many + 1])
        self.assertEqual([row[2] for row in goals[-1][1:]], [(("made", number),) for number in range(many)])
        # The roots have far too many parts to be compared as a whole: two ways down must do.
        for side in (1, 2):
            root, depth = goals[-1][-1][3][0], 0
            while root[0] == "made":
                self.assertEqual(len(root), 3)
                root, depth = root[side], depth + 1
            self.assertEqual((root, depth), (("goal", 0, 0), many))
        self.assertEqual(meant(start, script)[-1], [[("made", many - 1)]])
        self.assertEqual(meant(start, script)[1], [[("made", 0)], [("made", 0)]])
        self.assertIs(closes(start, script), True)

    def test_a_chain_along_a_goal(self):
        start = Start([("x", (("lt", "a", "b"),)), ("y", (("eq", "b", "c"),)), ("z", (("lt", "c", "d"),))], [], ("lt", "a", "d"))
        script = Script([("chain", ("name", "y"), ("name", "z"), "w"), ("chain", ("name", "x"), ("name", "w"), "v"),
                         ("close", ("name", "v"))])
        self.assertEqual(owned(start, script)[-1][-1], (
            "v", (("lt", "a", "d"),), (("made", 1),), (("made", ("goal", 0, 0), ("made", ("goal", 1, 0), ("goal", 2, 0))),)))
        self.assertEqual(meant(start, script), [
            [[("goal", 1, 0)], [("goal", 2, 0)]], [[("goal", 0, 0)], [("made", 0)]], [[("made", 1)]]])

    def test_plain_rows_are_those_of_the_run(self):
        for script in runs():
            if is_done(START, script):
                goals = owned(START, script)
                self.assertEqual([[row[:2] for row in goal] for goal in goals], list(walk(START, script)))
                for goal in goals:
                    for name, fact, owners, roots in goal:
                        self.assertIs(type(owners), tuple)
                        self.assertIs(type(roots), tuple)
                        self.assertEqual((len(owners), len(roots)), (len(fact), len(fact)))
                    owners = [owner for row in goal for owner in row[2]]
                    self.assertEqual(len(set(owners)), len(owners))


class MeantTest(unittest.TestCase):
    def test_all(self):
        script = Script([("turn", ("all", ("eq", "", ""))), ("turn", ("all", ("", "q", ""))), ("copy", ("book", ALL), "m")])
        self.assertEqual(meant(START, script), [
            [[("goal", 0, 0), ("goal", 1, 0), ("goal", 1, 1)]], [[]],
            [[("book", 0, 0), ("book", 1, 0), ("book", 1, 1)]]])

    def test_ascending(self):
        start = Start([("x", (("eq", "a", "b"),)), ("y", (("eq", "b", "c"),))], [("z", (("eq", "c", "d"),))], ("eq", "a", "c"))
        script = Script([("chain", ("name", "x"), ("name", "y"), "w"), ("copy", ("book", LAST), "z"), ("copy", ("at", 2), "v"),
                         ("copy", ("at", 0), "u"), ("turn", ALL)])
        self.assertEqual(meant(start, script)[-1], [[
            ("copy", 1, ("book", 0, 0)), ("copy", 2, ("made", 0)), ("copy", 3, ("goal", 0, 0)), ("goal", 0, 0),
            ("goal", 1, 0), ("made", 0)]])

    def test_two_picks_of_one_row(self):
        start = Start([("x", (("eq", "a", "a"),))], [], ("eq", "a", "a"))
        script = Script([("chain", LAST, ("at", 0), "m")])
        self.assertEqual(meant(start, script), [[[("goal", 0, 0)], [("goal", 0, 0)]]])

    def test_as_picked_and_owned(self):
        tried = 0
        for script in runs():
            if is_done(START, script):
                tried += 1
                goals, chosen = owned(START, script), picks(START, script)
                expected = []
                for index, step in enumerate(script.steps()):
                    told = []
                    for pick, at in zip(picks_of(step), chosen[index]):
                        rows = [row[2] for row in goals[index]] if pick[0] != "book" else START.owners("book")
                        told.append(sorted(owner for number in at for owner in rows[number]))
                        self.assertTrue(not is_single(pick) or len(at) == 1)
                    expected.append(told)
                self.assertEqual(meant(START, script), expected)
        self.assertGreater(tried, 50)


class ExchangeTest(unittest.TestCase):
    """Names of rows, or those in atoms, that are exchanged one to one are exchanged in the results."""

    ROWS = {"h": "k", "k": "trans", "trans": "m", "m": "pair", "pair": "t", "t": "q", "q": "h"}
    THINGS = {"a": "c", "c": "b", "b": "z", "d": "e", "e": "d", "f": "g", "g": "a", "q": "f", "z": "q", "": ""}

    def atom(self, atom, things):
        return (atom[0], things.get(atom[1], atom[1]), things.get(atom[2], atom[2]))

    def row(self, row, names, things):
        return (names.get(row[0], row[0]), tuple(self.atom(atom, things) for atom in row[1])) + row[2:]

    def pick(self, pick, names, things):
        if pick[0] == "book":
            return ("book", self.pick(pick[1], names, things))
        if pick[0] == "name":
            return ("name", names.get(pick[1], pick[1]))
        return (pick[0], self.atom(pick[1], things)) if pick[0] in ("like", "all") else pick

    def step(self, step, names, things):
        parts = [names.get(part, part) if isinstance(part, str) else self.pick(part, names, things) for part in step[1:]]
        return (step[0],) + tuple(parts)

    def test_runs(self):
        for names, things in [(self.ROWS, {}), ({}, self.THINGS), (self.ROWS, self.THINGS)]:
            goal = [self.row(row, names, things) for row in START.goal()]
            other = Start(goal, [self.row(row, names, things) for row in START.book()], self.atom(START.aim, things))
            for script in list(runs())[::3] + [SCRIPT]:
                exchanged = Script([self.step(step, names, things) for step in script.steps()])
                self.assertIs(is_done(START, script), is_done(other, exchanged))
                self.assertIs(closes(START, script), closes(other, exchanged))
                if is_done(START, script):
                    self.assertEqual(picks(START, script), picks(other, exchanged))
                    self.assertEqual(meant(START, script), meant(other, exchanged))
                    expected = [[self.row(row, names, things) for row in rows] for rows in owned(START, script)]
                    self.assertEqual(owned(other, exchanged), expected)
                    expected = [self.row(row, names, things) for row in ends(START, script)]
                    self.assertEqual(ends(other, exchanged), expected)
