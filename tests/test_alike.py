import random
import unittest

from scriptpicks.alike import are_alike, parting_edits, profile
from scriptpicks.errors import BadStep, HasPlace, Stopped, Unlike, Wrong
from scriptpicks.held import Held
from scriptpicks.licences import Licence
from scriptpicks.lives import effect, life
from scriptpicks.scripts import Script
from scriptpicks.starts import Start
from scriptpicks.steps import picks_of, with_pick
from tests.test_runs import ALL, H, K, LAST, LAW, ONE, PAIR, SCRIPT, START, THREE, TWO
from tests.test_strays import ATOM, EQ, FULL, LT, ROWS, held, run_under
from tests.trials import EVERY, SORTS, Trials, Universe, rows_of

T = ("name", "t")
TO_EQ, TO_LT = ("all", ("eq", "", "")), ("all", ("lt", "", ""))
ANY = Licence(goal="any", book="any")


def are_parted(one, other, edits):
    """Return whether edits show that two scripts are not alike, as the models of the held runs say it."""
    runs = [run_under(held_one, edits) for held_one in (one, other)]
    kept = [run.outcome() is None for run in runs]
    ends = [[(name, fact, roots) for name, fact, owners, roots in run.goals[-1]] for run in runs]
    return kept[0] != kept[1] or (kept[0] and ends[0] != ends[1])


def parted_by(one, other, edits):
    """Return the same as the package's held runs tell it, which is sooner done."""
    kept = [each.outcome(edits) is None for each in (one, other)]
    if kept != [True, True]:
        return kept[0] != kept[1]
    ends = [[(row[0], row[1], row[3]) for row in each.goals(edits)[-1]] for each in (one, other)]
    return ends[0] != ends[1]


class AlikeCase(unittest.TestCase):
    def parting(self, one, other, licence):
        """Return the edits that are told, or None; both are checked, both ways around."""
        edits = parting_edits(one, other, licence)
        self.assertIs(are_alike(one, other, licence), edits is None)
        back = parting_edits(other, one, licence)
        if edits is None:
            self.assertIsNone(back)
        for told in [edits, back] if edits is not None else []:
            self.assertIsInstance(told, list)
            self.assertEqual(len(told), len(edits))
            self.assertIs(licence.lets_all(one.start(), told), True)
            self.assertIs(are_parted(one, other, told), True)
            self.assertIs(parted_by(one, other, told), True)
        return edits

    def many(self, one, other, licence):
        """Return how many edits it takes to part two scripts, or None."""
        edits = self.parting(one, other, licence)
        return None if edits is None else len(edits)


class PartingTest(AlikeCase):
    def test_the_example(self):
        other = held(("part", K), ("chain", ("like", ("eq", "a", "")), ("like", ("lt", "b", "")), "t"), ("turn", H))
        swapped = Held(START, other.script().swapped(1))
        self.assertIsNone(self.many(other, swapped, Licence(goal="front", patterns=[("eq", "", "")])))
        self.assertEqual(self.many(other, Held(START, other.script().without(2)), Licence()), 0)

    def test_equal_scripts(self):
        for steps in [[], [("turn", H)], [("copy", TO_EQ, "m"), ("drop", TO_LT)], [("copy", ("book", ALL), "h"), ("call", ALL, "k"), ("turn", K)]]:
            for licence in [Licence(), ANY, FULL]:
                one = held(*steps)
                self.assertIsNone(self.many(one, one, licence))
                self.assertIsNone(self.many(one, held(*steps), licence))
        self.assertIsNone(self.many(held(), held(("drop", ("all", ("", "q", "")))), Licence(goal="any", patterns=[("", "q", "")], out=ROWS)))

    def test_parted_by_the_start_itself(self):
        for one, other in [(("turn", H), ("turn", K)), (("call", H, "m"), ("call", H, "n")), (("drop", H), ("copy", H, "h")),
                           (("copy", K, "m"), ("copy", ("book", LAST), "m"))]:
            for licence in [Licence(), FULL]:
                self.assertEqual(self.parting(held(one), held(other), licence), [])
        self.assertEqual(self.many(held(), held(("turn", H)), FULL), 0)
        self.assertEqual(self.many(held(("copy", H, "m"), ("copy", K, "m")), held(("copy", K, "m"), ("copy", H, "m")), Licence()), 0)

    def test_the_roots_of_equal_rows(self):
        start = Start([ONE, ONE], [ONE], ATOM)
        first, second = ("copy", ("book", LAST), "m"), ("copy", LAST, "m")
        self.assertEqual(self.many(held(first, start=start), held(second, start=start), Licence()), 0)
        # The row 0 and the row 1 are equal, but for their roots.
        one = held(("drop", ("like", ("eq", "", "b"))), start=start)
        other = held(("copy", LAST, "h"), ("drop", LAST), ("drop", LAST), start=start)
        self.assertEqual(self.many(one, other, Licence()), None)
        start = Start([("h", ONE[1]), ("k", ONE[1])], [], ATOM)
        one, other = held(("drop", H), ("call", K, "m"), start=start), held(("drop", K), ("call", H, "m"), start=start)
        self.assertEqual(self.many(one, other, Licence()), 0)

    def test_the_roots_of_chained_rows(self):
        start = Start([("h", (("eq", "a", "b"),)), ("k", (("eq", "a", "b"),)), ("m", (("eq", "b", "b"),))], [], ATOM)
        one, other = held(("chain", H, ("name", "m"), "t"), start=start), held(("chain", K, ("name", "m"), "t"), start=start)
        self.assertEqual(self.many(one, other, Licence()), 0)
        again = [("chain", T, ("name", "m"), "t"), ("copy", ("all", ("eq", "", "b")), "n"), ("drop", ("name", "h"))]
        self.assertEqual(self.many(Held(start, one.script() + Script(again)), Held(start, other.script() + Script(again)), Licence()), 0)
        self.assertIsNone(self.many(Held(start, one.script() + Script(again)), Held(start, one.script() + Script(again)), FULL))
        # The order of the two counts, and a copy has the root of what was copied.
        loop = Start([("h", (("eq", "a", "a"),)), ("k", (("eq", "a", "a"),))], [], ATOM)
        self.assertEqual(self.many(held(("chain", H, K, "t"), start=loop), held(("chain", K, H, "t"), start=loop), Licence()), 0)
        one = held(("copy", H, "h"), ("chain", H, K, "t"), ("drop", ("like", ("eq", "a", "a"))), start=loop)
        other = held(("chain", H, K, "t"), ("copy", H, "h"), ("call", T, "t"), ("turn", K), ("turn", K), start=loop)
        self.assertEqual(self.many(one, other, Licence()), 0)
        one = held(("copy", H, "h"), ("chain", H, K, "t"), ("drop", H), start=loop)
        self.assertIsNone(self.many(one, held(("chain", H, K, "t"), start=loop), Licence(turn=[("goal", 0)])))

    def test_roots_that_are_long(self):
        # Each root is twice as long as the one ahead.
        start = Start([("h", (("eq", "a", "a"),)), ("k", (("eq", "a", "a"),))], [], ATOM)
        steps = [("chain", LAST, LAST, "t")] * 39
        one, other = held(*steps, ("turn", H), start=start), held(("turn", H), *steps, start=start)
        self.assertIs(are_alike(one, other, Licence(goal="front")), True)
        self.assertEqual(parting_edits(one, held(*steps[1:], ("turn", H), start=start), Licence()), [])
        self.assertEqual(parting_edits(one, held(("chain", H, H, "t"), *steps[1:], start=start), Licence()), [])

    def test_an_outcome_of_the_one_alone(self):
        one, other = held(("turn", LAST)), held(("turn", H))
        self.assertIsNone(self.many(one, other, Licence(goal="front", turn=ROWS, out=ROWS[:1])))
        self.assertEqual(self.many(one, other, Licence(call=[("goal", 2)])), 1)
        self.assertEqual(self.many(one, other, Licence(goal="back")), 1)
        self.assertIsNone(self.many(one, other, Licence(goal="back", names=["h"]) & Licence(goal="front", names=["h"])))
        # Lost by both, at whatever step, is alike.
        one = held(("call", H, "m"), ("turn", ("name", "m")))
        other = held(("turn", H), ("call", H, "m"))
        self.assertIsNone(self.many(one, other, Licence(out=ROWS)))
        self.assertIsNone(self.many(one, other, Licence(call=[("goal", 2)], names=["m"])))
        # The step 1 of the one alone asks for m.
        self.assertEqual(self.many(one, other, Licence(goal="any", names=["h"])), 1)
        self.assertIsNone(self.many(one, other, Licence(goal="any", names=["h", "m"])))
        one = held(("call", H, "m"), ("copy", ("name", "m"), "n"))
        other = held(("copy", H, "n"), ("call", H, "m"))
        self.assertIsNone(self.many(one, other, Licence(goal="front", names=["n"])))
        self.assertEqual(self.many(one, other, Licence(goal="back", names=["h"])), 1)

    def test_parted_by_one_element(self):
        one, other = held(("copy", TO_EQ, "m")), held(("copy", TO_EQ, "m"), ("drop", ("all", ("gt", "q", ""))))
        self.assertEqual(self.many(one, other, Licence(goal="any")), 1)
        self.assertEqual(self.many(one, other, Licence(goal="any", patterns=[("gt", "q", "")])), None)
        self.assertIsNone(self.many(one, other, Licence(turn=ROWS, call=ROWS, out=ROWS)))
        self.assertEqual(self.many(one, other, Licence(more=ROWS)), 1)
        self.assertIsNone(self.many(one, other, Licence(book="any")))
        one, other = held(("copy", ("book", TO_LT), "m")), held(("copy", ("book", ("all", ("lt", "d", ""))), "m"), ("copy", ("book", LAST), "m"))
        self.assertIsNone(self.many(one, other, Licence()))
        self.assertEqual(self.many(one, other, Licence(book="front")), 1)
        self.assertEqual(self.many(one, other, Licence(book="front", patterns=[("lt", "", "")])), None)

    def test_names_that_steps_give(self):
        # A newcomer, or a row, that has the name that the step gives does not show it; and "a" is the least fresh name.
        one, other = held(("call", TO_EQ, "a"), ("call", ALL, "a")), held(("call", ALL, "a"))
        self.assertIsNone(self.many(one, other, Licence(goal="any", book="any", call=ROWS)))
        # The second part of a row does not fit, and the one alone asks for it.
        self.assertEqual(self.many(one, other, Licence(part=ROWS)), 1)
        one, other = held(("call", ("all", ("eq", "q", "")), "a")), held()
        self.assertEqual(self.many(one, other, Licence(goal="front")), 1)
        self.assertIsNone(self.many(one, other, Licence(goal="front", patterns=[("eq", "q", "")])))
        # The name is none that is barred, and none for which a step asks.
        self.assertEqual(self.many(one, other, Licence(goal="front", names=["b", "c"])), 1)
        one, other = held(("turn", H), ("call", ("all", ("eq", "q", "")), "a")), held(("turn", H))
        self.assertEqual(self.many(one, other, Licence(goal="back", names=["b", "c"])), 1)
        start = Start([("a", (("eq", "a", "b"),))], [], ATOM)
        one, other = held(("turn", ("name", "a")), ("drop", TO_LT), start=start), held(("turn", ("name", "a")), start=start)
        self.assertEqual(self.many(one, other, Licence(goal="back")), 1)
        start = Start([("a", (("eq", "a", "b"),)), ("b", (("lt", "a", "b"),))], [], ATOM)
        one, other = held(("call", TO_EQ, "a"), start=start), held(start=start)
        self.assertEqual(self.many(one, other, Licence(call=[("goal", 0)])), 1)
        self.assertIsNone(self.many(one, other, Licence(out=[("goal", 1)], turn=[("goal", 0)])))
        self.assertEqual(self.many(one, other, Licence(more=[("goal", 1)])), 1)
        one, other = held(("copy", TO_EQ, "a"), start=start), held(("copy", TO_EQ, "a"), ("call", TO_EQ, "a"), start=start)
        self.assertEqual(self.many(one, other, Licence(goal="front")), 1)

    def test_atoms_that_a_turn_does_not_change(self):
        # The least atom of all is ("eq", "a", "a"), which does not show that it was turned.
        start = Start([("h", (("eq", "a", "a"),))], [], ("eq", "a", "a"))
        one, other = held(("turn", ALL), start=start), held(start=start)
        self.assertIsNone(self.many(one, other, Licence(turn=rows_of(start), call=rows_of(start))))
        self.assertEqual(self.many(one, other, Licence(goal="any")), 1)
        self.assertEqual(self.many(one, other, Licence(more=rows_of(start))), 1)
        one, other = held(("turn", TO_EQ), start=start), held(start=start)
        self.assertEqual(self.many(one, other, Licence(goal="any")), 1)
        self.assertEqual(self.many(one, other, Licence(goal="any", patterns=[("lt", "", "")])), 1)
        self.assertIsNone(self.many(one, other, Licence(goal="any", patterns=[("eq", "", "")])))
        one, other = held(("turn", ("all", ("", "a", "a"))), start=start), held(start=start)
        self.assertEqual(self.many(one, other, Licence(goal="any", patterns=[("eq", "", "")])), 1)
        # What fits is not changed, but the atom beside it is.
        self.assertEqual(self.many(one, other, Licence(goal="any", patterns=[("lt", "", "")])), 1)
        self.assertIsNone(self.many(one, other, Licence(goal="any", patterns=[("", "a", "a")])))

    def test_parted_by_two_elements_only(self):
        start = Start([("k", (("gt", "a", "b"),))], [("k", (("gt", "a", "b"),))], ("gt", "a", "b"))
        one, other = held(("copy", TO_EQ, "m"), ("copy", TO_LT, "m"), start=start), held(("copy", TO_LT, "m"), ("copy", TO_EQ, "m"), start=start)
        for place in ("front", "back", "any"):
            self.assertEqual(self.many(one, other, Licence(goal=place)), 2)
            self.assertIsNone(self.many(one, other, Licence(goal=place, patterns=[("eq", "", "")])))
            self.assertIsNone(self.many(one, other, Licence(book=place)))
        # A row of the start in the place of one of them, with no edits that do not matter.
        self.assertEqual(self.many(one, other, Licence(goal="front", turn=[("goal", 0)], call=[("goal", 0)], patterns=[("lt", "", "")])), 2)
        self.assertEqual(self.many(one, other, Licence(goal="back", turn=[("goal", 0)], call=[("goal", 0)], more=[("goal", 0)])), 2)
        self.assertEqual(self.many(one, other, Licence(goal="front", turn=[("goal", 0)], patterns=[("lt", "", "")])), 2)
        self.assertEqual(self.many(one, other, Licence(more=[("goal", 0)], turn=[("goal", 0)])), None)
        one = held(("copy", ("book", TO_EQ), "m"), ("copy", ("book", TO_LT), "m"), start=start)
        other = held(("copy", ("book", TO_LT), "m"), ("copy", ("book", TO_EQ), "m"), start=start)
        self.assertEqual(self.many(one, other, Licence(book="back")), 2)
        self.assertIsNone(self.many(one, other, Licence(goal="any")))
        one = held(("copy", ("book", TO_EQ), "m"), ("copy", TO_LT, "m"), start=start)
        other = held(("copy", TO_LT, "m"), ("copy", ("book", TO_EQ), "m"), start=start)
        self.assertEqual(self.many(one, other, Licence(goal="any", book="any", patterns=[("lt", "", ""), ("eq", "", "a")])), None)
        self.assertEqual(self.many(one, other, Licence(goal="any", book="any")), 1)

    def test_one_element_beside_a_row_that_stays(self):
        # A newcomer that is copied changes places with the copy of the row 0.
        start = Start([("k", (("lt", "a", "b"),))], [], ATOM)
        one, other = held(("copy", K, "m"), ("copy", TO_EQ, "m"), start=start), held(("copy", TO_EQ, "m"), ("copy", K, "m"), start=start)
        self.assertEqual(self.many(one, other, Licence(goal="front")), 1)
        self.assertIsNone(self.many(one, other, Licence(goal="front", patterns=[("eq", "", "")])))
        # And with the chained row.
        start = Start([("h", (("lt", "a", "b"),)), ("k", (("lt", "b", "c"),))], [], ATOM)
        one = held(("chain", H, K, "t"), ("copy", TO_EQ, "m"), start=start)
        other = held(("copy", TO_EQ, "m"), ("chain", H, K, "t"), start=start)
        self.assertEqual(self.many(one, other, Licence(goal="front")), 1)
        self.assertIsNone(self.many(one, other, Licence(goal="front", patterns=[("eq", "", "")])))
        self.assertEqual(self.many(one, other, Licence(more=[("goal", 0)])), None)

    def test_two_edits_of_one_element(self):
        start = Start([("h", (("eq", "b", "a"),)), ("k", (("eq", "a", "b"),))], [], ATOM)
        one = held(("copy", ("all", ("lt", "", "")), "m"), ("turn", ("like", ("eq", "a", "b"))), start=start)
        other = held(("copy", ("all", ("lt", "", "")), "m"), ("turn", K), start=start)
        licence = Licence(more=ROWS[:1], turn=ROWS[:1], out=ROWS[:1], call=ROWS[:1])
        self.assertEqual(sorted(edit[0] for edit in self.parting(one, other, licence)), ["more", "turn"])
        # A newcomer takes one edit.
        licence = Licence(more=ROWS[:1], turn=ROWS[:1], goal="back", names=["k"])
        self.assertEqual(self.many(one, other, licence), 1)
        self.assertIsNone(self.many(one, other, licence & Licence(turn=ROWS[:1], out=ROWS[:1])))

    def test_three_edits_of_two_elements(self):
        # What turns the row so that it is copied takes it away from the first step, if nothing is added; a newcomer is the other copy.
        start = Start([("h", (("eq", "b", "a"),))], [], ATOM)
        one = held(("call", ("like", ("", "b", "")), "h"), ("copy", ("all", ("eq", "a", "b")), "m"), ("copy", ("all", ("gt", "", "")), "m"), start=start)
        other = Held(start, one.script().swapped(1))
        licence = Licence(goal="front", patterns=[("eq", "a", "b")], turn=ROWS[:1], more=ROWS[:1], call=ROWS[:1])
        self.assertEqual(sorted(edit[0] for edit in self.parting(one, other, licence)), ["more", "put", "turn"])
        universe = Universe(random.Random(126), [one.script()], licence, start.aim, 2)
        for edits in universe.lists(start, licence, 2, EVERY):
            self.assertIs(parted_by(one, other, edits), False)
        self.assertIsNone(self.many(one, other, Licence(turn=ROWS[:1], more=ROWS[:1], patterns=[("eq", "a", "b")])))

    def test_a_close_and_a_chain(self):
        start = Start([("h", (("lt", "a", "b"),)), ("k", (("lt", "b", "c"),))], [], ("lt", "a", "b"))
        one, other = held(("close", H), start=start), held(("close", ("like", ("lt", "a", ""))), start=start)
        self.assertIsNone(self.many(one, other, Licence(turn=rows_of(start))))
        self.assertEqual(self.many(one, other, Licence(call=rows_of(start))), 1)
        self.assertEqual(self.many(one, held(start=start), Licence(turn=rows_of(start))), 1)
        # If the aim is put beside the turned atom, the step is not lost.
        self.assertEqual(self.many(one, held(("turn", H), ("turn", H), start=start), Licence(turn=ROWS[:1], more=ROWS[:1])), 1)
        one, other = held(("chain", H, K, "t"), ("drop", T), start=start), held(start=start)
        for sort, expected in [("turn", 1), ("more", 1), ("out", 1), ("call", 1), ("part", None)]:
            self.assertEqual(self.many(one, other, Licence(**{sort: rows_of(start)})), expected)


class ErrorsTest(AlikeCase):
    def check(self, error, fields, one, other):
        for ask in (are_alike, parting_edits):
            with self.assertRaises(error) as caught:
                ask(one, other, FULL)
            self.assertIs(type(caught.exception), error)
            self.assertEqual(vars(caught.exception), fields)

    def test_starts_that_differ(self):
        script, place = Script([("turn", H)]), Script([("turn", ("at", 0))])
        starts = [Start([ONE, TWO], [LAW, PAIR], START.aim), Start([ONE, TWO, ("k", THREE[1])], [LAW, PAIR], START.aim),
                  Start([ONE, TWO, THREE], [LAW], START.aim), Start([ONE, TWO, THREE], [PAIR, LAW], START.aim), START.with_aim(("gt", "c", "a"))]
        for start in starts:
            for first in (script, place):
                for second in (script, place):
                    self.check(Unlike, {}, Held(START, first), Held(start, second))
        self.assertIsNone(self.many(Held(START, script), Held(Start(START.goal(), START.book(), START.aim), script), FULL))

    def test_picks_by_at(self):
        none = Held(START, Script([("turn", H), ("turn", K)]))
        one = Held(START, Script([("turn", H), ("turn", ("at", 0)), ("turn", ("at", 1))]))
        other = Held(START, Script([("copy", ("book", ("at", 0)), "m"), ("turn", ("at", 0))]))
        third = Held(START, Script([("turn", H), ("part", K), ("chain", ("like", ("eq", "a", "")), ("at", 1), "t")]))
        for first, second, index in [(none, one, 1), (one, none, 1), (none, other, 0), (other, none, 0), (one, other, 1), (other, one, 0),
                                     (one, one, 1), (third, none, 2), (none, third, 2), (third, other, 2)]:
            self.check(HasPlace, {"index": index}, first, second)


class ProfileTest(AlikeCase):
    def test_the_profile(self):
        one = held(("copy", TO_EQ, "m"), ("part", ALL), ("copy", TO_EQ, "n"), ("turn", LAST))
        row = ("x", (("eq", "x", "y"), ("lt", "x", "y")))
        eq, lt = row[1][:1], row[1][1:]
        self.assertEqual(profile(one, "goal", 0, row), ([], [
            ("x", eq, None), ("x", lt, None), ("m", eq, 0), ("m", lt, 0), ("n", eq, 2), ("n", eq, 2)]))
        self.assertEqual(profile(one, "goal", 3, row), ([3], profile(one, "goal", 0, row)[1]))
        self.assertEqual(profile(one, "book", 1, row), ([], []))
        # It may be asked of scripts with picks by "at", too.
        other = held(("turn", ("at", 1)), ("drop", ("all", ("", "x", ""))), ("turn", H))
        self.assertEqual(profile(other, "goal", 0, row), ([], []))
        self.assertEqual(profile(other, "goal", 3, ("h", (("eq", "y", "y"),))), ([2], [("h", (("eq", "y", "y"),), None)]))

    def test_as_the_life_and_the_effect(self):
        chance = random.Random(121)
        trials = Trials(chance)
        for _ in range(80):
            trials.renew()
            start = trials.start(3, 2)
            one = Held(start, trials.script(start, 5))
            for home in ("goal", "book"):
                gap, row = chance.randrange(len(start.rows(home)) + 1), trials.row()
                told = profile(one, home, gap, row)
                self.assertEqual(told, (effect(one, home, gap, row)[0], life(one, home, gap, row)[-1]))
                self.assertEqual(profile(one, home, gap, row), told)
                run = run_under(one, [("put", home, gap, row)])
                rows = [row[:2] for row in run.goals[-1] if any(root[0] == "new" for root in row[3])]
                self.assertEqual([row[:2] for row in told[1]], rows)


def bent(trials, script):
    """Return a Script that is like another one, but for a step or a pick."""
    chance, index, step = trials.chance, trials.chance.randrange(len(script)), trials.step()
    kind = chance.choice(["swap", "swap", "step", "pick", "pick", "more"])
    if kind == "swap" and index + 1 < len(script):
        return script.swapped(index)
    if kind == "pick":
        number = chance.randrange(len(picks_of(script[index])))
        return script.with_step(index, with_pick(script[index], number, chance.choice(picks_of(step))))
    if kind == "more":
        return Script(script.steps()[:index] + [step] + script.steps()[index:])
    return script.with_step(index, step)


def pairs(trials, many, goal, book):
    """Yield starts, and two Helds of scripts without "at"."""
    found = 0
    while found < many:
        trials.renew()
        start = trials.start(goal, book)
        script = trials.script(start, 5)
        if len(script) > 0:
            try:
                other = Held(start, bent(trials, script))
            except (BadStep, Stopped, Wrong):
                continue
            found += 1
            yield start, Held(start, script), other


def trials_of(chance, one):
    """Return Trials with a pattern of a script."""
    trials = Trials(chance)
    trials.patterns = one.script().patterns()[:1] or trials.patterns[:1]
    return trials


class AllEditsTest(AlikeCase):
    """No list of edits parts scripts that are told to be alike, or does it with fewer edits than are told."""

    def compare(self, one, other, licence, universe, depth, most):
        edits = self.parting(one, other, licence)
        self.assertIs(parted_by(one, other, []), edits == [])
        if edits is None or len(edits) > 1:
            for tried in universe.lists(one.start(), licence, depth, most):
                self.assertTrue(edits is not None and len(tried) >= len(edits) or not parted_by(one, other, tried), tried)
        return None if edits is None else len(edits)

    def test_all_lists_of_one_and_two_edits(self):
        chance, told = random.Random(122), []
        for start, one, other in pairs(Trials(chance, False), 240, 2, 1):
            licence = trials_of(chance, one).licence(start, ["h", "k", "m"], chance.choice([0.2, 0.4]))
            universe = Universe(chance, [one.script(), other.script()], licence, start.aim, 1)
            told.append(self.compare(one, other, licence, universe, 2, EVERY))
        self.assertGreater(told.count(None), 20)
        self.assertGreater(told.count(1), 10)

    def test_longer_lists_by_chance(self):
        chance, told = random.Random(123), []
        for start, one, other in pairs(Trials(chance, False), 120, 4, 2):
            licence = trials_of(chance, one).licence(start, ["h", "k", "m"], chance.choice([0.2, 0.6]))
            universe = Universe(chance, [one.script(), other.script()], licence, start.aim, 3)
            told.append(self.compare(one, other, licence, universe, 4, 3))
        self.assertGreater(told.count(None), 10)

    def test_where_two_elements_are_needed(self):
        chance = random.Random(124)
        start = Start([("k", (("gt", "a", "b"),))], [("k", (("gt", "a", "b"),))], ("gt", "a", "b"))
        one = held(("copy", TO_EQ, "m"), ("copy", TO_LT, "m"), start=start)
        other = held(("copy", TO_LT, "m"), ("copy", TO_EQ, "m"), start=start)
        for place in ("front", "back", "any"):
            licence = Licence(goal=place, call=[("goal", 0)], out=[("goal", 0)])
            universe = Universe(chance, [one.script(), other.script()], licence, start.aim, 3)
            self.assertEqual(self.compare(one, other, licence, universe, 2, EVERY), 2)


class WholeTest(AlikeCase):
    def test_several_licences_by_turns(self):
        chance = random.Random(125)
        trials = Trials(chance, False)
        for start, one, other in pairs(trials, 12, 3, 1):
            for licence in [trials.licence(start, ["h", "k"], 0.4) for _ in range(3)] * 2:
                new = [Held(start, each.script()) for each in (one, other)]
                self.assertEqual(parting_edits(one, other, licence), parting_edits(new[0], new[1], licence))

    def test_results_are_new(self):
        one, other = held(("turn", LAST)), held(("turn", H))
        told = parting_edits(one, other, FULL)
        self.assertNotEqual(told, [])
        told.clear()
        self.assertNotEqual(parting_edits(one, other, FULL), [])
        told = profile(one, "goal", 3, ONE)
        told[0].clear()
        told[1].clear()
        self.assertEqual(profile(one, "goal", 3, ONE), ([0], [ONE + (None,)]))

    def test_the_largest_inputs(self):
        rows = [("h", (("eq", "a", "b"),)), ("k", (("lt", "b", "c"), ("eq", "c", "d"))), ("h", (("gt", "e", "d"),)),
                ("m", (("eq", "a", "b"),)), ("n", (("eq", "b", "c"),)), ("p", (("lt", "c", "d"),))]
        start = Start(rows, [("t", row[1]) for row in rows[:4]], ("lt", "a", "c"))
        script = Script([("copy", ("book", ("all", ("", "c", ""))), "h"), ("part", ("all", ("", "", "d"))), ("copy", ("all", ("gt", "", "")), "m"),
                         ("turn", ("name", "p")), ("turn", ("name", "p")), ("call", H, "k"), ("turn", K), ("turn", ("name", "n"))])
        one, other = Held(start, script), Held(start, script.swapped(3))
        licence = Licence(goal="any", book="any", names=["x", "y", "z"], **{sort: rows_of(start) for sort in SORTS})
        self.assertIsNone(parting_edits(one, other, licence))
        other = Held(start, script.swapped(6))
        self.assertIsNone(parting_edits(one, other, licence & Licence(goal="front", book="front", turn=rows_of(start))))
