import random
import unittest

from scriptpicks.edits import edited
from scriptpicks.errors import Stopped
from scriptpicks.held import Held
from scriptpicks.runs import ends, is_done, meant, owned, picks
from scriptpicks.scripts import Script
from scriptpicks.starts import Start
from scriptpicks.steps import picks_of
from scriptpicks.picks import home_of, is_single
from tests.models import HeldRun, Model, done_script, random_edits
from tests.test_runs import ALL, H, K, LAST, ONE, SCRIPT, START, THREE, some_steps

ATOM = ("eq", "x", "y")
NEW = ("n", (ATOM,))
LIKE_LESS = ("like", ("lt", "", ""))
NOTHING = ("all", ("", "q", ""))


def held(*steps):
    return Held(START, Script(list(steps)))


def done_runs(most):
    """Yield Helds of many scripts, some of which end with a "close"."""
    chance, steps = random.Random(70), some_steps()
    for _ in range(most):
        script = done_script(START, chance, steps, 7)
        last, start = ends(START, script), START
        if last != [] and chance.random() < 0.3:
            start = START.with_aim(chance.choice(last[-1][1]))
            script = script + Script([("close", LAST)])
        yield Held(start, script)


def based(owner, change):
    """Return an owner with what change makes of the root of the start in it."""
    if owner[0] == "copy":
        return owner[:2] + (based(owner[2], change),)
    return owner if owner[0] == "made" else change(owner)


class FirstEvent:
    """The first event of the true run of an edited start: told by point 5 without the held run."""

    def __init__(self, held, edits):
        draft = edited(held.start(), edits)
        self.roots = {home: [row[2] for row in draft.rows(home)] for home in ("goal", "book")}
        self.start, self.held = draft.start(), held

    def owners(self, rows):
        return [[based(owner, lambda root: self.roots[root[0]][root[1]][root[2]]) for owner in row[2]] for row in rows]

    def told(self):
        steps, whole = self.held.script().steps(), self.held
        for index, step in enumerate(steps):
            goal = owned(self.start, Script(steps[:index]))[-1]
            book = owned(Start(self.start.book(), [], self.start.aim), Script([]))[0]
            book = [row[:2] + (tuple(("book",) + owner[1:] for owner in row[2]),) + row[3:] for row in book]
            word = self.word(index, step, self.owners(goal), self.owners(book), goal)
            if word is not None:
                return index, word
            assert is_done(self.start, Script(steps[:index + 1])), (whole, index)
        return None

    def word(self, index, step, goal, book, rows):
        words = []
        for number, pick in enumerate(picks_of(step)):
            there, owners = book if home_of(pick) == "book" else goal, self.held.meant()[index][number]
            if is_single(pick):
                found = [at for at, row in enumerate(there) if set(owners) <= set(row)]
                if not found or step[0] in ("chain", "close") and self.is_lost(index, step, number, rows[found[0]][1]):
                    return "lost"
            elif not set(owners) <= {owner for row in there for owner in row}:
                return "lost"
            reached = self.reached(pick, rows)
            if not set(owners) <= {owner for at in reached for owner in there[at]}:
                words.append("other" if reached else "none")
        return words[0] if words else None

    def reached(self, pick, rows):
        """Return what a pick picks: by a step that is never stuck, of a start with these rows."""
        here = Start([row[:2] for row in rows], self.start.book(), self.start.aim)
        script = Script([("copy", pick, "m")])
        return picks(here, script)[0][0] if is_done(here, script) else []

    def is_lost(self, index, step, number, fact):
        if step[0] == "close":
            return self.start.aim not in fact
        before, script = self.held.start(), self.held.script()
        return fact != owned(before, script)[index][picks(before, script)[index][number][0]][1]


class HeldTest(unittest.TestCase):
    def test_what_it_is_made_of(self):
        held = Held(START, SCRIPT)
        self.assertEqual([held.start(), held.script(), held.meant()], [START, SCRIPT, meant(START, SCRIPT)])

    def test_stopped(self):
        for steps in [[("turn", ("name", "q"))], [("turn", K), ("chain", H, K, "m")], [("turn", K)] * 3 + [("close", K)]]:
            with self.assertRaises(Stopped) as caught:
                held(*steps)
            self.assertEqual(caught.exception.index, len(steps) - 1)

    def test_without_edits(self):
        for one in done_runs(80):
            self.assertEqual([one.misses([]), one.lost([]), one.outcome([])], [[], None, None])
            self.assertEqual(one.goals([]), owned(one.start(), one.script()))
        empty = held()
        edits = [("out", "goal", 0), ("put", "goal", 0, NEW)]
        self.assertEqual([empty.misses(edits), empty.lost(edits), empty.outcome(edits, pins=[])], [[], None, None])
        self.assertEqual(len(empty.goals(edits)), 1)

    def test_the_words(self):
        last = held(("turn", LAST))
        self.assertEqual(last.outcome([("put", "goal", 3, NEW)]), (0, "other"))
        self.assertEqual(last.outcome([("put", "goal", 2, NEW)]), None)
        self.assertEqual(last.outcome([("out", "goal", 2)]), (0, "lost"))
        named = held(("turn", K))
        self.assertEqual(named.outcome([("call", "goal", 1, "m")]), (0, "none"))
        self.assertEqual(named.outcome([("put", "goal", 2, ("k", (ATOM,)))]), (0, "other"))
        self.assertEqual(named.outcome([("part", "goal", 1)]), (0, "lost"))
        self.assertEqual(named.outcome([("call", "goal", 1, "m"), ("call", "goal", 0, "k")]), (0, "other"))

    def test_the_first_pick_tells_the_word(self):
        start = Start([("h", (("eq", "a", "b"),)), ("k", (("lt", "b", "c"),))], [], ("lt", "a", "c"))
        chain = Held(start, Script([("chain", H, K, "m")]))
        lost_h, lost_k, more_k = ("call", "goal", 0, "x"), ("call", "goal", 1, "x"), ("put", "goal", 2, ("k", (ATOM,)))
        self.assertEqual(chain.outcome([lost_h]), (0, "none"))
        self.assertEqual(chain.outcome([more_k]), (0, "other"))
        self.assertEqual(chain.outcome([lost_h, more_k]), (0, "none"))
        self.assertEqual(chain.outcome([lost_k, ("put", "goal", 2, ("h", (ATOM,)))]), (0, "other"))

    def test_pins(self):
        script = held(("turn", K), ("turn", LAST), ("part", K), ("drop", H))
        edits = [("call", "goal", 1, "m"), ("put", "goal", 3, ("h", (ATOM,)))]
        self.assertEqual(script.misses(edits), [0, 1, 2, 3])
        self.assertIsNone(script.lost(edits))
        for pins, expected in [((), (0, "none")), ([], (0, "none")), ([0], (1, "other")), ((1, 0), (2, "none")), ([1, 2], (0, "none")),
                               ([2, 1, 0], (3, "other")), ((0, 1, 2, 3), None), ([3, 7, 9], (0, "none"))]:
            self.assertEqual(script.outcome(edits, pins=pins), expected)
        # A pin does not help a step that is lost.
        edits = [("out", "goal", 1), ("put", "goal", 2, ("h", (ATOM,)))]
        self.assertEqual([script.misses(edits), script.lost(edits)], [[], 0])
        self.assertEqual(script.outcome(edits, pins=[0, 1, 2, 3]), (0, "lost"))
        self.assertRaises(TypeError, lambda: script.outcome(edits, [0]))

    def test_the_held_run_ends_ahead_of_what_is_lost(self):
        script = held(("call", LAST, "z"), ("turn", K), ("turn", ("name", "z")))
        edits = [("put", "goal", 3, NEW), ("out", "goal", 1)]
        self.assertEqual([script.misses(edits), script.lost(edits), script.outcome(edits)], [[0], 1, (0, "other")])
        self.assertEqual(script.outcome(edits, pins=[0]), (1, "lost"))
        roots = (("goal", 2, 0),)
        new = NEW + ((("new", 0, 0),),) * 2
        self.assertEqual(script.goals(edits), [
            [ONE + ((("goal", 0, 0),),) * 2, THREE + (roots,) * 2, new], [ONE + ((("goal", 0, 0),),) * 2, ("z", THREE[1], roots, roots), new]])

    def test_an_all_that_meant_no_row(self):
        script = held(("drop", NOTHING), ("copy", ("book", NOTHING), "m"), ("turn", LAST))
        self.assertEqual(script.meant()[:2], [[[]], [[]]])
        fact = (("lt", "q", "b"),)
        edits = [("put", "goal", 0, ("n", fact)), ("put", "book", 0, ("n", fact))]
        self.assertEqual([script.misses(edits), script.lost(edits)], [[2], None])
        # It acts on all rows that fit, though it meant none.
        copied = ("m", fact, (("copy", 1, ("new", 1, 0)),), (("new", 1, 0),))
        self.assertEqual([len(goal) for goal in script.goals(edits)], [4, 3, 4, 4])
        self.assertEqual(script.goals(edits)[2][-1], copied)
        self.assertIsNone(script.outcome([("out", "goal", 0), ("out", "goal", 0), ("out", "book", 0)]))

    def test_an_all_acts_on_what_it_meant_and_on_what_fits(self):
        script = held(("call", ("all", ("eq", "", "")), "m"))
        edits = [("turn", "goal", 0), ("more", "goal", 0, ("lt", "u", "v"), 0), ("put", "goal", 3, NEW), ("put", "goal", 0, ("n", (("lt", "u", "v"),)))]
        self.assertEqual([[row[0] for row in goal] for goal in script.goals(edits)], [["n", "h", "k", "h", "n"], ["n", "m", "m", "h", "m"]])
        self.assertIsNone(script.outcome(edits))
        parted = held(("drop", ("all", ("eq", "", "d"))))
        edits = [("part", "goal", 1)]
        # The row of the other part was meant, too; the pick does not reach it.
        self.assertEqual([parted.outcome(edits), len(parted.goals(edits)[-1])], [(0, "other"), 2])
        self.assertEqual(parted.outcome([("turn", "goal", 1)]), (0, "none"))
        self.assertEqual(parted.outcome([("turn", "goal", 1), ("put", "goal", 0, ("n", (("eq", "z", "d"),)))]), (0, "other"))
        self.assertEqual(parted.outcome(edits + [("out", "goal", 1)]), (0, "lost"))

    def test_a_chain_with_another_fact(self):
        for number, edits in enumerate([[("turn", "goal", 0)], [("turn", "goal", 1)], [("more", "goal", 0, ATOM, 0)], [("more", "goal", 1, ATOM, 1)]]):
            start = Start([("h", (("eq", "a", "b"),)), ("k", (("eq", "b", "c"),))], [], ("eq", "a", "c"))
            chain = Held(start, Script([("chain", ("at", 0), ("at", 1), "m")]))
            self.assertEqual([chain.lost(edits), chain.outcome(edits, pins=[0])], [0, (0, "lost")], number)
            self.assertIsNone(chain.outcome([("call", "goal", 0, "x"), ("call", "goal", 1, "x")]))
            # Turned twice, it has the same fact again.
            self.assertIsNone(chain.outcome([("turn", "goal", 0)] * 2))

    def test_a_close_without_the_aim(self):
        close = Held(START.with_aim(("eq", "c", "d")), Script([("close", K)]))
        self.assertEqual(close.outcome([("turn", "goal", 1)]), (0, "lost"))
        self.assertEqual(close.outcome([("part", "goal", 1)]), (0, "lost"))
        self.assertIsNone(close.outcome([("call", "goal", 2, "m"), ("turn", "goal", 0)]))
        one = Held(START.with_aim(("eq", "a", "b")), Script([("close", ("at", 0))]))
        self.assertIsNone(one.outcome([("more", "goal", 0, ATOM, 0)]))
        self.assertEqual(one.outcome([("more", "goal", 0, ATOM, 1), ("turn", "goal", 0)]), (0, "lost"))

    def test_picks_by_at_behind_copies(self):
        script = held(("copy", ("all", ("eq", "", "")), "m"), ("copy", ("book", ("at", 1)), "m"), ("turn", ("at", 4)), ("turn", ("at", 5)))
        fits, other = ("n", (ATOM,)), ("n", (("lt", "x", "y"),))
        self.assertEqual([script.misses([("put", "goal", at, fits)]) for at in range(4)], [[2, 3]] * 4)
        self.assertEqual(script.misses([("put", "goal", 0, other)]), [2, 3])
        self.assertEqual(script.misses([("put", "goal", 3, other), ("out", "goal", 2)]), [])
        self.assertEqual(script.misses([("put", "book", 0, other)]), [1])
        self.assertEqual(script.misses([("put", "book", 2, fits)]), [])
        self.assertEqual(script.misses([("out", "goal", 2)]), [2, 3])

    def test_roots_and_owners_of_copies_and_chains(self):
        script = held(("part", K), ("chain", ("at", 0), LIKE_LESS, "t"), ("copy", ("name", "t"), "u"), ("copy", ("name", "u"), "v"))
        edits = [("put", "goal", 0, NEW), ("call", "goal", 2, "m")]
        roots = (("made", ("goal", 0, 0), ("goal", 1, 0)),)
        self.assertEqual(script.goals(edits)[-1][-1], (
            "v", (("lt", "a", "c"),), (("copy", 3, ("copy", 2, ("made", 1))),), roots))
        self.assertEqual(script.misses(edits), [0, 1])

    def test_random_edits_against_the_model(self):
        chance = random.Random(71)
        atoms = [("eq", "a", "b"), ("lt", "b", "c"), ("lt", "q", "b"), ("eq", "c", "d"), ("gt", "x", "c")]
        names = ["h", "k", "m", "n", "trans"]
        words = {}
        for one in done_runs(250):
            for _ in range(12):
                edits, model = random_edits(one.start(), chance, atoms, names, 5)
                told = HeldRun(one.start(), one.script(), model)
                self.assertEqual(one.goals(edits), told.goals)
                self.assertEqual([one.misses(edits), one.lost(edits)], [told.misses(), told.lost])
                for pins in ((), [0], (1, 2), list(range(9))):
                    self.assertEqual(one.outcome(edits, pins=pins), told.outcome(pins))
                word = one.outcome(edits)
                words[word and word[1]] = words.get(word and word[1], 0) + 1
        self.assertTrue(all(words[word] > 100 for word in (None, "lost", "none", "other")), words)

    def test_results_are_new(self):
        one = Held(START, SCRIPT)
        edits = [("put", "goal", 0, NEW)]
        for ask in [one.meant, lambda: one.misses(edits), lambda: one.goals(edits)]:
            before, changed = ask(), ask()
            for part in changed:
                if isinstance(part, list):
                    part.clear()
            changed.clear()
            self.assertEqual(ask(), before)
        self.assertEqual(edits, [("put", "goal", 0, NEW)])
        parts = one.goals([])
        self.assertEqual(len({id(part) for part in parts}), len(parts))
        told = one.meant()
        lists = [owners for step in told for owners in step]
        self.assertEqual(len({id(owners) for owners in lists}), len(lists))

    def test_forty_steps(self):
        script = Held(START, Script([("copy", LAST, "m")] * 20 + [("turn", ("at", 22))] * 19 + [("copy", ALL, "n")]))
        self.assertIsNone(script.outcome([("call", "goal", 0, "x")]))
        self.assertEqual(script.outcome([("put", "goal", 3, NEW)]), (0, "other"))
        self.assertEqual(script.misses([("put", "goal", 3, NEW)]), [0] + list(range(20, 39)))
        self.assertEqual(len(script.goals([("put", "goal", 3, NEW)])[-1]), 48)


class PromisesTest(unittest.TestCase):
    ATOMS = [("eq", "a", "b"), ("lt", "b", "c"), ("lt", "q", "b"), ("eq", "c", "d")]
    NAMES = ["h", "k", "m", "n", "trans"]

    def test_first_event(self):
        chance, words = random.Random(72), {}
        for one in done_runs(120):
            for _ in range(6):
                edits = random_edits(one.start(), chance, self.ATOMS, self.NAMES, 4)[0]
                expected, told = FirstEvent(one, edits).told(), one.outcome(edits)
                self.assertEqual(told, expected)
                words[told and told[1]] = words.get(told and told[1], 0) + 1
        self.assertTrue(all(words[word] > 15 for word in (None, "lost", "none", "other")), words)

    def test_one_element_alone(self):
        """A step is lost, or misses by a pick that is no "at", under edits of elements of which one does it alone."""
        chance, seen = random.Random(73), [0, 0]
        for one in done_runs(200):
            model = HeldRun(one.start(), one.script(), random_edits(one.start(), chance, [], [], 0)[1])
            self.assertEqual(model.words, [[None] * len(picks_of(step)) for step in one.script().steps()])
            for _ in range(8):
                edits, behind = random_edits(one.start(), chance, self.ATOMS, self.NAMES, 3, self.is_of_the_start)
                alone = [HeldRun(one.start(), one.script(), self.alone(one.start(), edits, element))
                         for element in sorted({self.element(one.start(), edits, at) for at in range(len(edits))})]
                whole = HeldRun(one.start(), one.script(), behind)
                losts = [run.lost for run in alone if run.lost is not None]
                self.assertEqual(whole.lost, min(losts) if losts else None)
                end = whole.lost if whole.lost is not None else len(one.script())
                misses = {index for run in alone for index in run.misses_beside_at() if index < end}
                self.assertEqual(whole.misses_beside_at(), sorted(misses))
                seen[0] += len(losts)
                seen[1] += len(misses)
        self.assertGreater(min(seen), 80)

    def is_of_the_start(self, edit):
        return edit[0] != "put"

    def element(self, start, edits, at):
        """Return (home, k) of the row that an edit of rows of the start changes."""
        draft = edited(start, edits[:at])
        home, index = edits[at][1:3]
        return next((home, root[1]) for root in draft.rows(home)[index][2] if root[0] == home)

    def alone(self, start, edits, element):
        """Return the model behind just the edits of one row of the start."""
        model, home = Model(start), element[0]
        for at, edit in enumerate(edits):
            if self.element(start, edits, at) != element:
                continue
            before = edited(start, edits[:at]).rows(home)
            numbers = [next((root[1] for root in row[2] if root[0] == home), None) for row in before]
            offset = len([k for k in numbers[:edit[2]] if k == element[1]])
            there = [row.element for row in model.homes[home]].index(element[1]) + offset
            assert model.do(edit[:2] + (there,) + edit[3:])
        return model

    def test_names_exchanged(self):
        """With the names of rows, or those in atoms, exchanged one to one, all goes likewise."""
        chance = random.Random(74)
        rows = dict(zip(["h", "k", "m", "n", "trans", "pair", "t"], ["k", "trans", "zz", "h", "n", "m", "abcdefgh"]))
        things = dict(zip(["a", "b", "c", "d", "e", "f", "g", "q"], ["b", "c", "a", "q", "zzzzzzzz", "d", "f", "g"]))

        def changed(thing):
            """Return a row, step or edit with the names exchanged."""
            if isinstance(thing, list):
                return [changed(part) for part in thing]
            if not isinstance(thing, tuple):
                return rows.get(thing, thing)
            if len(thing) == 3 and thing[0] in ("", "eq", "lt", "gt"):
                return (thing[0], things.get(thing[1], thing[1]), things.get(thing[2], thing[2]))
            return tuple(changed(part) for part in thing)

        for one in done_runs(100):
            start = Start(changed(one.start().goal()), changed(one.start().book()), changed(one.start().aim))
            other = Held(start, Script(changed(one.script().steps())))
            self.assertEqual(other.meant(), one.meant())
            for _ in range(5):
                edits = random_edits(one.start(), chance, self.ATOMS, self.NAMES, 4)[0]
                self.assertEqual(other.outcome(changed(edits)), one.outcome(edits))
                self.assertEqual(other.misses(changed(edits)), one.misses(edits))
                self.assertEqual([[row[:2] for row in goal] for goal in other.goals(changed(edits))],
                                 changed([[row[:2] for row in goal] for goal in one.goals(edits)]))
