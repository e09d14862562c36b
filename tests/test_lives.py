import random
import unittest

from scriptpicks.classes import newcomers
from scriptpicks.edits import Draft, edited
from scriptpicks.held import Held
from scriptpicks.licences import Licence
from scriptpicks.lives import effect, harmless, life, lives
from scriptpicks.picks import bare
from scriptpicks.scripts import Script
from scriptpicks.starts import Start
from scriptpicks.steps import picks_of
from tests.models import HeldRun, Model, done_script, random_edits
from tests.test_runs import ALL, H, LAST, SCRIPT, START, some_steps

ATOM, LESS = ("eq", "x", "y"), ("lt", "b", "y")
WORDS = ["none", "front", "back", "any"]


def held(*steps):
    return Held(START, Script(list(steps)))


def is_new(root):
    """Return whether an atom comes of a row that was put in."""
    return root[0] == "new"


def since(owner):
    """Return which step put a row behind all, as its first owner tells, or None."""
    return owner[1] if owner[0] == "copy" else None


def run_with(one, home, gap, row):
    """Return the model of the held run with a row put in."""
    model = Model(one.start())
    assert model.do(("put", home, gap, row))
    return HeldRun(one.start(), one.script(), model)


def expected_life(run):
    return [[(row[0], row[1], since(row[2][0])) for row in goal if is_new(row[3][0])] for goal in run.goals]


def expected_effect(run):
    """Return what `effect` is to tell, from the whole held run."""
    adds = {}
    for index, step in enumerate(run.script.steps()):
        acts = run.acts(index, step, run.goals[index])
        for number, pick in enumerate(picks_of(step)):
            if bare(pick)[0] == "at":
                rows = run.looked_at(pick, run.goals[index])
                adds[(index, number)] = len([row for row in rows[:acts[number][0]] if is_new(row[3][0])])
    return run.misses_beside_at(), adds


class LifeTest(unittest.TestCase):
    def test_a_row_that_no_step_takes(self):
        self.assertEqual(life(Held(START, SCRIPT), "goal", 1, ("n", (ATOM,))), [[("n", (ATOM,), None)]] * 4)
        self.assertEqual(life(Held(START, SCRIPT), "book", 0, ("n", (ATOM,))), [[]] * 4)
        self.assertEqual(life(held(), "goal", 0, ("n", (ATOM, LESS))), [[("n", (ATOM, LESS), None)]])

    def test_a_row_that_an_all_takes_along(self):
        one = held(("turn", ALL), ("call", ("all", ("lt", "", "")), "m"), ("part", ALL), ("drop", ("all", ("eq", "", ""))), ("drop", LAST))
        turned = (("eq", "y", "x"), ("gt", "y", "b"))
        self.assertEqual(life(one, "goal", 0, ("n", (ATOM, LESS))), [
            [("n", (ATOM, LESS), None)], [("n", turned, None)], [("n", turned, None)],
            [("n", turned[:1], None), ("n", turned[1:], None)], [("n", turned[1:], None)], [("n", turned[1:], None)]])
        self.assertEqual(life(one, "goal", 3, ("n", (("gt", "x", "y"),)))[2:4], [[("m", (("lt", "y", "x"),), None)]] * 2)

    def test_copies_of_a_newcomer(self):
        one = held(("copy", ("all", ("lt", "", "")), "m"), ("copy", ALL, "p"), ("drop", ("all", ("lt", "", "y"))))
        fact = (LESS,)
        rows = [("n", fact, None), ("m", fact, 0)]
        self.assertEqual(life(one, "goal", 2, ("n", fact)), [
            rows[:1], rows, rows + [("p", fact, 1), ("p", fact, 1)], []])

    def test_rows_of_the_book(self):
        one = held(("copy", ("book", ("all", ("lt", "", ""))), "m"), ("turn", ("all", ("", "", "y"))), ("copy", ("book", ALL), "p"))
        self.assertEqual(life(one, "book", 1, ("n", (LESS,))), [
            [], [("m", (LESS,), 0)], [("m", (("gt", "y", "b"),), 0)], [("m", (("gt", "y", "b"),), 0), ("p", (LESS,), 2)]])
        self.assertEqual(life(one, "book", 0, ("n", (ATOM,))), [[], [], [], [("p", (ATOM,), 2)]])

    def test_the_example(self):
        one = Held(START, SCRIPT)
        self.assertEqual(effect(one, "goal", 0, ("n", (LESS,))), ([], {(1, 0): 1}))
        self.assertEqual(effect(one, "goal", 3, ("n", (LESS,))), ([1], {(1, 0): 0}))

    def test_behind_what_is_meant_or_ahead_of_it(self):
        one = held(("turn", H), ("turn", ("name", "k")), ("turn", LAST), ("turn", ("like", ("eq", "", ""))), ("turn", ("all", ("eq", "", ""))))
        told = [effect(one, "goal", gap, ("k", (ATOM,)))[0] for gap in range(4)]
        self.assertEqual(told, [[], [], [1, 3], [1, 2, 3]])
        self.assertEqual([effect(one, "goal", gap, ("h", (LESS,)))[0] for gap in range(4)], [[], [], [], [0, 2]])
        self.assertEqual([effect(one, "book", gap, ("h", (ATOM,))) for gap in range(3)], [([], {})] * 3)

    def test_picks_in_the_book(self):
        one = held(("copy", ("book", ("at", 1)), "m"), ("copy", ("book", LAST), "m"), ("copy", ("book", ("name", "trans")), "m"), ("turn", ("at", 5)))
        self.assertEqual([effect(one, "book", gap, ("trans", (ATOM,))) for gap in range(3)], [
            ([], {(0, 0): 1, (3, 0): 0}), ([2], {(0, 0): 1, (3, 0): 0}), ([1, 2], {(0, 0): 0, (3, 0): 0})])
        self.assertEqual([effect(one, "goal", gap, ("trans", (ATOM,))) for gap in range(4)], [([], {(0, 0): 0, (3, 0): 1})] * 4)

    def test_adds_of_copies(self):
        script = [("copy", ("all", ("eq", "", "")), "m"), ("turn", ("at", 3)), ("turn", ("at", 4)), ("copy", ("book", LAST), "p"), ("turn", ("at", 5))]
        adds = [effect(held(*script), "goal", gap, ("n", (ATOM,)))[1] for gap in range(4)]
        # The copies stand in the order of what was copied.
        self.assertEqual(adds, [{(1, 0): 2, (2, 0): 2, (4, 0): 2}, {(1, 0): 1, (2, 0): 2, (4, 0): 2},
                                {(1, 0): 1, (2, 0): 1, (4, 0): 2}, {(1, 0): 1, (2, 0): 1, (4, 0): 2}])

    def test_chained_rows_that_are_meant(self):
        start = Start([("h", (("eq", "a", "b"),)), ("k", (("lt", "b", "c"),))], [], ATOM)
        steps = [("copy", ("all", ("eq", "", "")), "m"), ("chain", H, ("name", "k"), "t"), ("copy", ("all", ("", "a", "")), "p"),
                 ("turn", ("at", 3)), ("turn", ("at", 6)), ("turn", ("name", "t")), ("call", ("at", 2), "t"), ("turn", LAST)]
        one = Held(start, Script(steps))
        # The chained row stands behind the first copies and ahead of the others, and so do its own copies.
        self.assertEqual(one.meant()[3:5], [[[("made", 1)]], [[("copy", 2, ("made", 1))]]])
        adds = [effect(one, "goal", gap, ("t", (("eq", "a", "y"),))) for gap in range(3)]
        self.assertEqual(adds, [([], {(3, 0): 2, (4, 0): 4, (6, 0): 2}), ([], {(3, 0): 2, (4, 0): 4, (6, 0): 1}),
                                ([], {(3, 0): 2, (4, 0): 4, (6, 0): 1})])
        later = Held(start, Script(steps[:3] + [("turn", ("name", "t")), ("turn", ("name", "p")), ("turn", ("like", ("gt", "c", "")))]))
        self.assertEqual(effect(later, "goal", 2, ("t", (("lt", "a", "c"),)))[0], [])
        for gap in range(3):
            for row in [(name, (atom,)) for name in ("h", "p", "t") for atom in (("lt", "a", "c"), ("eq", "a", "b"), ("lt", "q", "b"))]:
                for told in (one, later):
                    self.assertEqual(effect(told, "goal", gap, row), expected_effect(run_with(told, "goal", gap, row)))

    def test_against_the_held_runs(self):
        chance, steps = random.Random(76), some_steps()
        names, atoms = ["h", "k", "m", "n", "trans", "pair"], [ATOM, LESS, ("eq", "a", "b"), ("lt", "q", "b"), ("gt", "e", "d")]
        seen = set()
        for _ in range(250):
            one = Held(START, done_script(START, chance, steps, 8))
            for home, gap in [("goal", gap) for gap in range(4)] + [("book", gap) for gap in range(3)]:
                row = (chance.choice(names), tuple(chance.choice(atoms) for _ in range(chance.randrange(1, 3))))
                run = run_with(one, home, gap, row)
                self.assertIsNone(run.lost)
                self.assertEqual(life(one, home, gap, row), expected_life(run))
                told = effect(one, home, gap, row)
                self.assertEqual(told, expected_effect(run))
                self.assertEqual([list(told[1]), type(told)], [sorted(told[1]), tuple])
                edits = [("put", home, gap, row)]
                self.assertEqual([[told[:2] for told in rows] for rows in life(one, home, gap, row)], [
                    [told[:2] for told in goal if is_new(told[3][0])] for goal in one.goals(edits)])
                places = {step for step, number in told[1] if told[1][(step, number)] != 0}
                self.assertEqual(one.misses(edits), sorted(places | set(told[0])))
                seen.add(repr(told))
        self.assertGreater(len(seen), 100)

    def test_results_are_new(self):
        one = held(("turn", ("at", 0)), ("turn", LAST))
        row = ("n", (ATOM,))
        told = life(one, "goal", 0, row)
        self.assertEqual(len({id(rows) for rows in told}), 3)
        told[0].clear()
        self.assertEqual(life(one, "goal", 0, row)[0], [row + (None,)])
        misses, adds = effect(one, "goal", 0, row)
        misses.append(1)
        adds.clear()
        self.assertEqual(effect(one, "goal", 0, row), ([], {(0, 0): 1}))
        told = lives(one, Licence(goal="any"))
        self.assertEqual(len({id(entry[3]) for entry in told} | {id(entry[4]) for entry in told}), 2 * len(told))


class LivesTest(unittest.TestCase):
    def test_just_the_gaps_that_are_allowed(self):
        one = held(("turn", H), ("turn", ("at", 1)))
        for goal in WORDS:
            for book in WORDS:
                licence = Licence(goal=goal, book=book)
                told = lives(one, licence)
                gaps = {"none": [], "front": [0], "any": [0, 1, 2, 3], "back": [3]}[goal]
                places = [("goal", gap) for gap in gaps]
                places += [("book", gap) for gap in {"none": [], "front": [0], "any": [0, 1, 2], "back": [2]}[book]]
                rows = newcomers(one, licence)
                self.assertEqual([entry[:3] for entry in told], sorted((home, gap, row) for home, gap in places for row in rows))
                for home, gap in [("goal", gap) for gap in range(4)] + [("book", gap) for gap in range(3)]:
                    quiet = [entry[2] for entry in told if entry[:2] == (home, gap) and entry[3] == [] and entry[4] == [(1, 0, 0)]]
                    self.assertEqual(harmless(one, licence, home, gap), quiet)
                    allowed = all(licence.lets(Draft(START), ("put", home, gap, row)) for row in rows)
                    self.assertIs(allowed, (home, gap) in places)

    def test_homes_without_rows(self):
        one = Held(Start([], [], ATOM), Script([("turn", ALL), ("copy", ("book", ALL), "m")]))
        rows = newcomers(one, Licence())
        for word in WORDS[1:]:
            told = lives(one, Licence(goal=word, book=word))
            self.assertEqual(told, [(home, 0, row, [], []) for home in ("book", "goal") for row in rows])
            self.assertEqual(harmless(one, Licence(goal=word), "goal", 0), rows)
            self.assertEqual(harmless(one, Licence(goal=word), "book", 0), [])

    def test_barred_rows(self):
        one = held(("turn", H), ("turn", ("like", ("eq", "", ""))))
        licence = Licence(goal="any", names=["h"], patterns=[("eq", "", "")])
        self.assertEqual({tuple(entry[3]) for entry in lives(one, licence)}, {()})
        self.assertEqual({entry[2][0] for entry in lives(one, licence)}, {"a"})
        self.assertEqual({tuple(entry[3]) for entry in lives(one, Licence(goal="any"))}, {(), (0,), (1,), (0, 1)})
        self.assertEqual(lives(one, Licence(goal="any", patterns=[("", "", "")])), [])
        self.assertEqual(lives(one, Licence()), [])

    def test_against_effect(self):
        chance, steps = random.Random(77), some_steps()
        for _ in range(25):
            one = Held(START, done_script(START, chance, steps, 5))
            licence = Licence(goal=chance.choice(WORDS), book=chance.choice(WORDS[1:]), names=chance.sample(["h", "k", "m"], 1))
            told = lives(one, licence)
            self.assertEqual(told, sorted(told))
            places = one.script().places()
            for home, gap, row, misses, adds in chance.sample(told, min(len(told), 40)):
                self.assertEqual((misses, {entry[:2]: entry[2] for entry in adds}), effect(one, home, gap, row))
                self.assertEqual([entry[:2] for entry in adds], places)
                outcome = one.outcome([("put", home, gap, row)])
                quiet = misses == [] and all(entry[2] == 0 for entry in adds)
                self.assertEqual([outcome is None, row in harmless(one, licence, home, gap)], [quiet, quiet])


class TogetherTest(unittest.TestCase):
    def test_what_newcomers_add_is_summed(self):
        """By "at" a step misses if and only if the numbers of rows ahead do not add up to 0."""
        chance, steps = random.Random(78), some_steps()
        steps = [("turn", ("at", at)) for at in range(6)] * 12 + steps
        names, atoms = ["h", "k", "n"], [ATOM, LESS, ("eq", "a", "b")]
        seen = set()
        for _ in range(200):
            one = Held(START, done_script(START, chance, steps, 6))
            edits, model = random_edits(START, chance, atoms, names, 4, lambda edit: edit[0] == "put")
            run, sums, misses = HeldRun(START, one.script(), model), {}, set()
            draft = edited(START, edits)
            for home in ("goal", "book"):
                for at, row in enumerate(draft.rows(home)):
                    if is_new(row[2][0]):
                        gap = len([other for other in draft.rows(home)[:at] if not is_new(other[2][0])])
                        told = effect(one, home, gap, row[:2])
                        misses |= set(told[0])
                        for pick, many in told[1].items():
                            sums[pick] = sums.get(pick, 0) + many
            misses |= {pick[0] for pick, many in sums.items() if many != 0}
            self.assertEqual([run.misses(), run.lost], [sorted(misses), None])
            seen.add(tuple(sums.values()))
        self.assertGreater(len(seen), 20)
