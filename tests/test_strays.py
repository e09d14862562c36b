import random
import unittest

from scriptpicks.held import Held
from scriptpicks.licences import Licence
from scriptpicks.pins import loose
from scriptpicks.scripts import Script
from scriptpicks.starts import Start
from scriptpicks.strays import fates, first_edit, is_steady, is_sure
from scriptpicks.sums import can_miss, states
from tests.models import HeldRun, Model
from tests.test_runs import ALL, H, K, LAST, ONE, SCRIPT, START, THREE, TWO
from tests.trials import EVERY, SORTS, WORDS, Trials, Universe, rows_of

ROWS = [("goal", 0), ("goal", 1), ("goal", 2), ("book", 0), ("book", 1)]
FULL = Licence(goal="any", book="any", **{sort: ROWS for sort in SORTS})
ATOM = ("eq", "x", "y")
EQ, LT = ("like", ("eq", "", "")), ("like", ("lt", "", ""))


def held(*steps, start=START):
    return Held(start, Script(list(steps)))


def run_under(one, edits):
    """Return the held run under edits, as the model says it."""
    model = Model(one.start())
    assert all(model.do(edit) for edit in edits)
    return HeldRun(one.start(), one.script(), model)


def fate_under(one, edits):
    """Return (step, word) of what comes first under edits, as the model says it, or None."""
    outcome = run_under(one, edits).outcome()
    return outcome and (outcome[0], "lost" if outcome[1] == "lost" else "misses")


class StrayCase(unittest.TestCase):
    def firsts(self, one, licence):
        """Return the dict from what can come first to the edits that are told, all of which are checked."""
        found = {}
        for step in range(len(one.script())):
            for word in ("misses", "lost"):
                edits = first_edit(one, licence, step, word)
                if edits is not None:
                    self.assertIsInstance(edits, list)
                    self.assertIs(licence.lets_all(one.start(), edits), True)
                    self.assertEqual(fate_under(one, edits), (step, word))
                    found[(step, word)] = edits
        told = [[word for word in ("lost", "misses") if (step, word) in found] for step in range(len(one.script()))]
        self.assertEqual(fates(one, licence), told)
        for step, words in enumerate(told):
            self.assertIs(is_sure(one, licence, step), not words)
        self.assertIs(is_steady(one, licence), not found)
        return found

    def many(self, one, licence):
        """Return the dict from what can come first to how many edits it takes."""
        return {what: len(edits) for what, edits in self.firsts(one, licence).items()}


class ExamplesTest(StrayCase):
    def test_the_example(self):
        one = Held(START, SCRIPT)
        self.assertEqual(self.many(one, Licence(goal="any", names=["k"])), {(1, "misses"): 1})
        self.assertEqual(self.many(one, Licence(goal="back")), {(0, "misses"): 1, (1, "misses"): 1})
        licence = Licence(turn=[("goal", 0), ("goal", 2)], out=[("goal", 1)])
        self.assertEqual(self.firsts(one, licence), {(0, "lost"): [("out", "goal", 1)], (1, "lost"): [("turn", "goal", 0)]})

    def test_licences_that_allow_nothing(self):
        nothing = [Licence(), Licence(names=["h"]), Licence(goal="any", book="any", patterns=[("", "", "")]),
                   Licence(out=[("goal", 3), ("book", 2)]), Licence(call=[("book", 9)], more=[("goal", 9)])]
        for one in [Held(START, SCRIPT), held(), held(("turn", ("at", 2)), ("close", ("at", 0)), start=START.with_aim(ONE[1][0]))]:
            for licence in nothing:
                self.assertEqual(self.firsts(one, licence), {})
        self.assertEqual([fates(held(), FULL), is_steady(held(), FULL)], [[], True])

    def test_all_that_the_script_asks_for_is_barred(self):
        one = held(("turn", H), ("turn", LT), ("call", K, "m"))
        licence = Licence(goal="any", book="any", names=["h", "k"], patterns=[("lt", "", "")], more=ROWS)
        self.assertEqual(self.firsts(one, licence), {})
        # A row may still be called by a name for which no step asks.
        licence = Licence(goal="any", names=["h", "k"], patterns=[("lt", "", "")], call=ROWS)
        self.assertEqual(self.firsts(one, licence), {(0, "misses"): [("call", "goal", 2, "a")], (2, "misses"): [("call", "goal", 1, "a")]})

    def test_the_places_for_rows(self):
        one = held(("turn", H), ("turn", ("at", 0)), ("copy", ("book", LAST), "m"), ("copy", ("book", ("at", 0)), "m"))
        goals = {"none": [], "front": [1], "back": [0], "any": [0, 1]}
        books = {"none": [], "front": [3], "back": [2], "any": [2, 3]}
        for goal in WORDS:
            for book in WORDS:
                expected = {(step, "misses"): 1 for step in goals[goal] + books[book]}
                self.assertEqual(self.many(one, Licence(goal=goal, book=book)), expected)

    def test_homes_without_rows(self):
        one = Held(Start([], [], ATOM), Script([("turn", ALL), ("copy", ("book", ALL), "m")]))
        self.assertEqual(self.firsts(one, Licence(goal="any", book="back")), {})
        one = held(("copy", ("book", LAST), "m"), ("turn", LAST), start=Start([], [ONE], ATOM))
        self.assertEqual(self.many(one, Licence(goal="back", book="front")), {})
        self.assertEqual(self.many(one, Licence(goal="back", book="back")), {(0, "misses"): 1})

    def test_gaps_between_two_parts_of_a_row(self):
        one = held(("part", ALL), ("turn", ("at", 0)), ("turn", ("at", 1)), start=Start([TWO], [], ATOM))
        between = [("part", "goal", 0), ("put", "goal", 1, ("m", (ATOM,)))]
        self.assertEqual(one.outcome(between), (2, "other"))
        licence = Licence(goal="any", part=[("goal", 0)])
        self.assertIs(licence.lets_all(one.start(), between), False)
        # Ahead of the row a newcomer makes the step 1 miss, and behind it none.
        self.assertEqual(self.many(one, licence), {(1, "misses"): 1})

    def test_lost_ahead_of_where_it_could_miss(self):
        one = held(("chain", ("at", 0), ("like", ("lt", "b", "")), "t"), ("turn", ("like", ("eq", "a", ""))),
                   start=Start([ONE, ("k", (("lt", "b", "c"),))], [], ATOM))
        licence = Licence(turn=ROWS, more=ROWS)
        self.assertEqual(self.many(one, licence), {(0, "lost"): 1})
        self.assertEqual(loose(one, licence), [])

    def test_a_step_that_misses_never_as_the_first(self):
        one = held(("turn", K), ("call", K, "k"))
        self.assertEqual(self.many(one, Licence(goal="back", call=ROWS)), {(0, "misses"): 1})
        self.assertEqual(loose(one, Licence(goal="back")), [0, 1])

    def test_a_close(self):
        one = held(("turn", K), ("turn", K), ("close", LAST), start=START.with_aim(THREE[1][0]))
        self.assertEqual(self.many(one, Licence(turn=ROWS)), {(2, "lost"): 1})
        self.assertEqual(self.many(one, Licence(goal="back", names=["k"])), {(2, "misses"): 1})
        # If the aim is added, the row has it, whichever way it is turned.
        licence = Licence(turn=[("goal", 2)], more=[("goal", 2)])
        self.assertEqual(self.many(one, licence), {(2, "lost"): 1})
        self.assertEqual(self.firsts(one, Licence(more=ROWS)), {})

    def test_a_chain_whose_row_gets_another_fact(self):
        start = Start([ONE, ("k", (("lt", "b", "c"),))], [], ATOM)
        one = held(("chain", H, K, "t"), ("turn", ("name", "t")), start=start)
        lost, misses = {(0, "lost"): 1}, {(0, "misses"): 1}
        for sort, expected in [("out", lost), ("turn", lost), ("more", lost), ("part", {}), ("call", misses)]:
            self.assertEqual(self.many(one, Licence(**{sort: [("goal", 1)]})), expected)
        # What is chained is not edited; a newcomer of its name stands ahead of it.
        self.assertEqual(self.firsts(one, Licence(goal="back", names=["h", "k"])), {})

    def test_an_all_that_picks_no_row(self):
        one = held(("drop", ("all", ("", "q", ""))), ("turn", LAST))
        self.assertEqual(self.many(one, Licence(goal="back")), {(1, "misses"): 1})
        # A newcomer that the step drops does no harm.
        licence = Licence(goal="back", patterns=[("eq", "", ""), ("lt", "", "")])
        self.assertEqual(self.firsts(one, licence), {})
        self.assertEqual(one.outcome([("put", "goal", 3, ("m", (("eq", "q", "a"),)))]), None)
        one = held(("call", ("all", ("", "q", "")), "h"), ("turn", H))
        self.assertEqual(self.many(one, Licence(goal="any", names=["h"])), {(1, "misses"): 1})
        self.assertEqual(self.firsts(one, Licence(goal="front", names=["h"], call=ROWS[:2])), {})

    def test_copies_of_copies(self):
        one = held(("copy", ("all", ("", "q", "")), "m"), ("copy", ("all", ("", "q", "")), "k"), ("turn", ("at", 2)), ("turn", LAST))
        # What is copied behind all makes the last step miss, if a row less makes up for the one ahead of all.
        self.assertEqual(self.many(one, Licence(goal="front")), {(2, "misses"): 1})
        self.assertEqual(self.many(one, Licence(goal="front", out=[("goal", 0)])), {(2, "misses"): 1, (3, "misses"): 2})
        one = held(("copy", ("book", ALL), "m"), ("copy", ("all", ("lt", "", "")), "k"), ("turn", K), ("turn", ("name", "m")))
        self.assertEqual(self.many(one, Licence(book="any")), {(2, "misses"): 1, (3, "misses"): 1})
        self.assertEqual(self.many(one, Licence(book="any", patterns=[("lt", "", "")])), {(3, "misses"): 1})
        self.assertEqual(self.many(one, Licence(book="front")), {})


class SumsTest(StrayCase):
    """Picks by "at": what is more and less ahead of the rows of earlier steps has to come to nothing."""

    def test_in_the_goal(self):
        one = held(("turn", ("at", 2)), ("turn", ("at", 1)), ("turn", ("at", 0)))
        self.assertEqual(self.many(one, Licence(goal="any")), {(0, "misses"): 1})
        # A row less ahead of both, and one more between them; or one more ahead of both, which saves the step 1.
        licence = Licence(goal="any", out=[("goal", 0)])
        self.assertEqual(self.many(one, licence), {(0, "misses"): 1, (1, "misses"): 2, (2, "lost"): 2})
        licence = Licence(goal="front", out=[("goal", 0)])
        self.assertEqual(self.many(one, licence), {(0, "misses"): 1, (2, "lost"): 2})

    def test_in_the_book(self):
        one = held(("copy", ("book", ("at", 1)), "m"), ("copy", ("book", ("at", 0)), "n"))
        self.assertEqual(self.many(one, Licence(book="any", out=[("book", 0)])), {(0, "misses"): 1, (1, "lost"): 2})
        self.assertEqual(self.many(one, Licence(book="back", out=[("book", 0)])), {(0, "misses"): 1})

    def test_in_both(self):
        one = held(("copy", ("book", ALL), "m"), ("turn", ("at", 3)), ("turn", ("at", 1)))
        self.assertEqual(self.many(one, Licence(book="front", out=[("goal", 0)])), {(1, "misses"): 1, (2, "misses"): 2})

    def test_lost_behind_sums(self):
        one = held(("turn", ("at", 2)), ("turn", ("at", 0)))
        self.assertEqual(self.many(one, Licence(out=[("goal", 0)])), {(0, "misses"): 1})
        self.assertEqual(self.many(one, Licence(goal="front", out=[("goal", 0)])), {(0, "misses"): 1, (1, "lost"): 2})
        self.assertEqual(self.many(one, Licence(goal="back", out=[("goal", 0)])), {(0, "misses"): 1})

    def test_parts(self):
        rows = [("h", (("eq", "a", "b"), ("lt", "a", "b"))), ("k", (ATOM,)), ("m", (ATOM,)), ("n", (ATOM,))]
        one = held(("turn", ("at", 3)), ("turn", ("at", 2)), ("turn", ("at", 1)), start=Start(rows, [], ATOM))
        told = self.many(one, Licence(part=[("goal", 0)], out=[("goal", 1), ("goal", 2)]))
        self.assertEqual(told, {(0, "misses"): 1, (1, "lost"): 2, (2, "lost"): 2})
        self.assertEqual(self.many(one, Licence(part=[("goal", 0)], goal="back")), {(0, "misses"): 1})

    def test_newcomers_that_add_two(self):
        rows = [("a", (("lt", "a", "b"),)), ("b", (("lt", "b", "c"),))] + [(name, (("lt", "x", "y"),)) for name in "cde"]
        start = Start(rows, [], ATOM)
        one = held(("copy", ("all", ("eq", "", "")), "m"), ("chain", ("name", "a"), ("name", "b"), "t"), ("turn", ("at", 5)),
                   ("turn", ("name", "c")), start=start)
        out = [("goal", k) for k in (2, 3, 4)]
        licence = Licence(goal="front", names=["a", "b", "c"], patterns=[("lt", "", "")], out=out)
        self.assertEqual(self.many(one, licence), {(2, "misses"): 1, (3, "lost"): 3})
        # Where each row that is put in adds two, and only one row can be taken out, there is no way back to nothing.
        licence = Licence(goal="front", names=["a", "b", "c"], patterns=[("lt", "", "")], out=out[:1])
        self.assertEqual(self.many(one, licence), {(2, "misses"): 1})
        # Without the pattern a row may be put in that is not copied.
        licence = Licence(goal="front", names=["a", "b", "c"], out=out[:1])
        self.assertEqual(self.many(one, licence), {(2, "misses"): 1, (3, "lost"): 2})

    def test_as_the_states_tell(self):
        chance = random.Random(101)
        trials, seen = Trials(chance), []
        for _ in range(60):
            trials.renew()
            start = trials.start(4, 2)
            one = Held(start, trials.script(start, 5))
            if len(one.script().places()) < 4:
                licence = trials.licence(start, ["h", "k", "m", "a"], chance.choice([0.2, 0.5]))
                for step, words in enumerate(fates(one, licence)):
                    told = any(can_miss(one, step, state) for state in states(one, licence, step))
                    self.assertEqual("misses" in words, told)
                    seen.append(told)
        self.assertGreater(min(seen.count(True), seen.count(False)), 20)


class AllEditsTest(StrayCase):
    """No list of edits does what is ruled out, or does it with fewer edits."""

    def compare(self, one, licence, lists):
        firsts = self.firsts(one, licence)
        seen = 0
        for edits in lists:
            outcome = one.outcome(edits)
            if outcome is not None:
                what = (outcome[0], "lost" if outcome[1] == "lost" else "misses")
                self.assertIn(what, firsts, edits)
                self.assertLessEqual(len(firsts[what]), len(edits))
                seen += 1
        return seen, firsts

    def test_all_lists_of_one_and_two_edits(self):
        chance = random.Random(102)
        trials, seen = Trials(chance), 0
        for _ in range(200):
            trials.renew()
            start = trials.start(3, 1)
            one = Held(start, trials.script(start, 5))
            licence = trials.licence(start, ["h", "k", "m"], chance.choice([0.2, 0.4]))
            universe = Universe(chance, [one.script()], licence, start.aim, 1)
            seen += self.compare(one, licence, universe.lists(start, licence, 2, EVERY))[0]
        self.assertGreater(seen, 2500)

    def test_picks_by_at_by_chance(self):
        chance, lengths = random.Random(107), []
        rows = [("h", (ATOM,)), ("k", (ATOM, ("lt", "x", "y"))), ("m", (ATOM,)), ("n", (("lt", "x", "y"),))]
        for _ in range(30):
            start = Start(rows, rows[:2], ATOM)
            steps = [("turn", ("at", at)) for at in range(4)] + [("copy", ("book", ("at", at)), "m") for at in range(2)]
            steps += [("part", ("all", ("lt", "", ""))), ("drop", ("all", ("eq", "", ""))), ("copy", ("all", ("lt", "", "")), "h")]
            one = Held(start, Script(chance.sample(steps[:6], 2) + [chance.choice(steps[6::2])] + chance.sample(steps[:4], 1)))
            licence = Licence(goal=chance.choice(WORDS), book=chance.choice(WORDS), names=["h", "k", "m", "n"],
                              patterns=[chance.choice([("lt", "", ""), ("eq", "", "")])], out=chance.sample(rows_of(start), 2), part=rows_of(start)[:1])
            universe = Universe(chance, [one.script()], licence, start.aim, 1)
            seen, firsts = self.compare(one, licence, universe.lists(start, licence, 3, 16))
            lengths += [len(edits) for edits in firsts.values()]
        self.assertGreater(lengths.count(2), 5)

    def test_longer_lists_by_chance(self):
        chance = random.Random(103)
        trials, seen = Trials(chance), 0
        for _ in range(40):
            trials.renew()
            start = trials.start(4, 2)
            one = Held(start, trials.script(start, 6))
            licence = trials.licence(start, ["h", "k", "m"], chance.choice([0.2, 0.6]))
            universe = Universe(chance, [one.script()], licence, start.aim, 4)
            seen += self.compare(one, licence, universe.lists(start, licence, 4, 3))[0]
        self.assertGreater(seen, 500)

    def test_the_sums(self):
        chance = random.Random(104)
        rows = [("a", (("lt", "a", "b"),)), ("b", (("lt", "b", "c"),)), ("c", (("lt", "x", "y"),))]
        start = Start(rows, rows[:2], ATOM)
        one = held(("copy", ("book", ("at", 1)), "m"), ("turn", ("at", 2)), ("turn", ("at", 1)), ("copy", ("book", ("at", 0)), "m"), start=start)
        licence = Licence(goal="any", book="front", patterns=[("lt", "", "")], out=[("goal", 0), ("book", 0)])
        universe = Universe(chance, [one.script()], licence, start.aim, 1)
        seen, firsts = self.compare(one, licence, universe.lists(start, licence, 3, 25))
        self.assertGreater(seen, 1000)
        self.assertEqual({what: len(edits) for what, edits in firsts.items()},
                         {(0, "misses"): 1, (1, "misses"): 1, (2, "misses"): 2, (3, "lost"): 2})


class WholeTest(StrayCase):
    def test_one_held_and_several_licences_by_turns(self):
        chance = random.Random(105)
        trials = Trials(chance)
        for _ in range(10):
            trials.renew()
            start = trials.start(3, 2)
            script = trials.script(start, 5)
            licences = [trials.licence(start, ["h", "k"], 0.4) for _ in range(3)]
            one = Held(start, script)
            asked = [(licence, step, word) for licence in licences for step in range(len(script)) for word in ("misses", "lost")] * 2
            chance.shuffle(asked)
            for licence, step, word in asked:
                self.assertEqual(first_edit(one, licence, step, word), first_edit(Held(start, script), licence, step, word))
                self.assertEqual(fates(one, licence), fates(Held(start, script), licence))

    def test_results_are_new(self):
        one = Held(START, SCRIPT)
        told, edits = fates(one, FULL), first_edit(one, FULL, 1, "lost")
        self.assertEqual(len({id(words) for words in told}), 3)
        for words in told + [told, edits]:
            words.clear()
        self.assertNotEqual(fates(one, FULL), [])
        self.assertNotEqual(fates(one, FULL)[0], [])
        self.assertNotEqual(first_edit(one, FULL, 1, "lost"), [])

    def test_names_exchanged(self):
        chance = random.Random(106)
        trials = Trials(chance)
        change = dict(zip("hkmtabcxyz", chance.sample("hkmtabcxyz", 10)))

        def exchanged(thing):
            if isinstance(thing, (list, tuple)):
                return type(thing)(exchanged(part) for part in thing)
            return change.get(thing, thing)

        for _ in range(20):
            trials.renew()
            start = trials.start(3, 2)
            script = trials.script(start, 5)
            licence = trials.licence(start, ["h", "k"], 0.4)
            other = Held(Start(exchanged(start.goal()), exchanged(start.book()), exchanged(start.aim)), Script(exchanged(script.steps())))
            other_licence = Licence(goal=licence.where("goal"), book=licence.where("book"), names=exchanged(licence.names()),
                                    patterns=exchanged(licence.patterns()), **{sort: licence.told(sort) for sort in SORTS})
            self.assertEqual(self.many(Held(start, script), licence), self.many(other, other_licence))

    def test_the_largest_inputs(self):
        rows = [("h", (("eq", "a", "b"),)), ("k", (("lt", "b", "c"), ("eq", "c", "d"))), ("h", (("gt", "e", "d"),)),
                ("m", (("eq", "a", "b"),)), ("n", (("eq", "b", "c"),)), ("p", (("lt", "c", "d"),))]
        start = Start(rows, [("t", row[1]) for row in rows[:4]], ("lt", "a", "c"))
        script = Script([("copy", ("book", ("all", ("", "c", ""))), "h"), ("part", ("all", ("", "", "d"))), ("copy", ("all", ("gt", "", "")), "m"),
                         ("turn", ("at", 9)), ("turn", ("at", 5)), ("call", H, "k"), ("turn", K), ("turn", ("name", "n"))])
        every = rows_of(start)
        one = Held(start, script)
        licence = Licence(goal="any", book="any", names=["x", "y", "z"], **{sort: every for sort in SORTS})
        told = fates(one, licence)
        self.assertEqual(len(told), 8)
        for step, words in list(enumerate(told))[::4]:
            for word in ("misses", "lost"):
                edits = first_edit(one, licence, step, word)
                self.assertEqual(edits is not None, word in words)
                if edits is not None:
                    self.assertEqual((licence.lets_all(start, edits), fate_under(one, edits)), (True, (step, word)))
