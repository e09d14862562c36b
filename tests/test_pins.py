import random
import unittest

from scriptpicks.held import Held
from scriptpicks.licences import Licence
from scriptpicks.pins import enough, loose, miss_edit, pin_edit
from scriptpicks.scripts import Script
from scriptpicks.starts import Start
from scriptpicks.strays import fates
from tests.test_runs import ALL, H, K, LAST, ONE, SCRIPT, START, TWO
from tests.test_strays import ATOM, FULL, ROWS, held, run_under
from tests.trials import EVERY, SORTS, WORDS, Trials, Universe, rows_of


class PinCase(unittest.TestCase):
    def misses(self, one, licence):
        """Return the dict from the loose steps to the edits that are told, all of which are checked, with some pins."""
        steps, found = range(len(one.script())), {}
        for step in steps:
            edits = miss_edit(one, licence, step)
            if edits is not None:
                self.assertIsInstance(edits, list)
                self.assertIs(licence.lets_all(one.start(), edits), True)
                self.assertIn(step, run_under(one, edits).misses())
                found[step] = edits
        self.assertEqual(loose(one, licence), list(found))
        many = list(steps)
        for pins in [[], many, tuple(many), list(found), many[1:], many[:-1], many[::2], many * 2, tuple(found) * 2, many[::-1]] + [[step] for step in steps]:
            left = [len(found[step]) for step in found if step not in pins]
            edits = pin_edit(one, licence, pins)
            self.assertIs(enough(one, licence, pins), not left)
            self.assertEqual(edits is None, not left)
            if left:
                self.assertIs(licence.lets_all(one.start(), edits), True)
                self.assertTrue(set(run_under(one, edits).misses()) - set(pins))
                self.assertEqual(len(edits), min(left))
                self.assertNotIn(one.outcome(edits, pins=pins), [None])
        return found

    def many(self, one, licence):
        """Return the dict from the loose steps to how many edits it takes to make them miss."""
        return {step: len(edits) for step, edits in self.misses(one, licence).items()}


class ExamplesTest(PinCase):
    def test_the_example(self):
        one = Held(START, SCRIPT)
        self.assertEqual(self.many(one, Licence(goal="any", names=["k"])), {1: 1})
        self.assertEqual(self.many(one, Licence(goal="back")), {0: 1, 1: 1})
        self.assertEqual(self.many(one, Licence(turn=[("goal", 0), ("goal", 2)], out=[("goal", 1)])), {})

    def test_licences_that_allow_nothing(self):
        for one in [Held(START, SCRIPT), held()]:
            for licence in [Licence(), Licence(goal="any", book="any", patterns=[("", "", "")]), Licence(out=[("goal", 3)])]:
                self.assertEqual(self.many(one, licence), {})
                self.assertEqual([loose(one, licence), enough(one, licence, []), pin_edit(one, licence, ())], [[], True, None])
        self.assertEqual(self.many(held(), FULL), {})

    def test_all_that_the_script_asks_for_is_barred(self):
        one = held(("turn", H), ("turn", ("like", ("lt", "", ""))), ("call", K, "m"))
        licence = Licence(goal="any", book="any", names=["h", "k"], patterns=[("lt", "", "")], more=ROWS)
        self.assertEqual(self.many(one, licence), {})
        self.assertEqual(self.many(one, licence & Licence(names=["k"], patterns=[("lt", "", "")])), {})
        self.assertEqual(self.many(one, Licence(goal="any", patterns=[("lt", "", "")])), {0: 1, 2: 1})

    def test_the_places_for_rows(self):
        one = held(("turn", H), ("turn", ("at", 0)), ("copy", ("book", LAST), "m"), ("copy", ("book", ("at", 0)), "m"))
        goals = {"none": [], "front": [1], "back": [0], "any": [0, 1]}
        books = {"none": [], "front": [3], "back": [2], "any": [2, 3]}
        for goal in WORDS:
            for book in WORDS:
                self.assertEqual(self.many(one, Licence(goal=goal, book=book)), {step: 1 for step in goals[goal] + books[book]})

    def test_not_only_as_the_first(self):
        one = held(("turn", K), ("call", K, "k"), ("drop", LAST))
        licence = Licence(goal="back", call=ROWS)
        self.assertEqual(fates(one, licence), [["misses"], [], ["misses"]])
        self.assertEqual(self.many(one, licence), {0: 1, 1: 1, 2: 1})
        # A row more ahead of one step cannot be made up for, and the next step misses all the same.
        one = held(("turn", ("at", 1)), ("turn", ("at", 2)))
        self.assertEqual(fates(one, Licence(goal="front")), [["misses"], []])
        self.assertEqual(self.many(one, Licence(goal="front")), {0: 1, 1: 1})
        self.assertEqual(pin_edit(one, Licence(goal="front"), [0, 0]), miss_edit(one, Licence(goal="front"), 1))

    def test_lost_ahead_of_where_it_could_miss(self):
        one = held(("chain", ("at", 0), ("like", ("lt", "b", "")), "t"), ("turn", ("like", ("eq", "a", ""))),
                   start=Start([ONE, ("k", (("lt", "b", "c"),))], [], ATOM))
        self.assertEqual(self.many(one, Licence(turn=ROWS, more=ROWS, out=ROWS)), {})
        one = held(("turn", ("all", ("eq", "", ""))), ("turn", ("name", "k")), start=Start([ONE, TWO], [], ATOM))
        self.assertEqual(self.many(one, Licence(part=ROWS, out=ROWS)), {0: 1})
        self.assertEqual(self.many(one, Licence(part=ROWS, call=ROWS[1:])), {0: 1, 1: 1})

    def test_more_than_one_edit(self):
        # The row 0 has to fit the one pattern to be copied, and the other one to be picked in the place of the row 1.
        start = Start([("h", (("eq", "b", "a"),)), ("k", (("eq", "a", "b"),))], [], ATOM)
        one = held(("copy", ("all", ("lt", "", "")), "m"), ("turn", ("like", ("eq", "a", "b"))), start=start)
        licence = Licence(more=ROWS[:1], turn=ROWS[:1], call=ROWS[:1], out=ROWS[:1])
        told = self.misses(one, licence)
        self.assertEqual({step: sorted(edit[0] for edit in edits) for step, edits in told.items()}, {1: ["more", "turn"]})
        self.assertEqual(self.many(one, Licence(more=ROWS[:1], turn=ROWS[:1], patterns=[("lt", "", "")])), {})
        # Wherever there is a shorter way, ahead of the row or behind it, it is taken.
        for place in ("front", "back", "any"):
            self.assertEqual(self.many(one, Licence(goal=place, more=ROWS[:1], turn=ROWS[:1])), {1: 1})
        self.assertEqual(self.many(one, Licence(more=ROWS[:1], turn=ROWS[1:2])), {1: 1})

    def test_picks_by_at(self):
        one = held(("copy", ("book", ("at", 1)), "m"), ("copy", ("book", ALL), "n"), ("turn", ("at", 5)), ("turn", ("at", 2)))
        self.assertEqual(self.many(one, Licence(out=[("book", 0)])), {0: 1})
        self.assertEqual(self.many(one, Licence(goal="back", book="back")), {2: 1})
        self.assertEqual(self.many(one, Licence(book="front")), {0: 1, 2: 1})
        self.assertEqual(self.many(one, Licence(part=[("goal", 1)])), {2: 1, 3: 1})
        self.assertEqual(self.many(one, Licence(turn=ROWS, call=ROWS, more=ROWS)), {})

    def test_an_all_that_picks_no_row(self):
        one = held(("drop", ("all", ("", "q", ""))), ("copy", ("all", ("", "p", "")), "h"), ("turn", H))
        self.assertEqual(self.many(one, Licence(goal="front", names=["h"])), {2: 1})
        self.assertEqual(self.many(one, Licence(goal="front", names=["h"], patterns=[("", "p", "")])), {})

    def test_a_close(self):
        one = held(("turn", LAST), ("turn", LAST), ("close", ("like", ("gt", "e", ""))), start=START.with_aim(("gt", "e", "d")))
        self.assertEqual(self.many(one, Licence(turn=ROWS)), {})
        self.assertEqual(self.many(one, Licence(goal="back")), {0: 1, 1: 1, 2: 1})
        self.assertEqual(self.many(one, Licence(goal="back", patterns=[("lt", "", "")])), {0: 1, 1: 1})


class AllEditsTest(PinCase):
    """No list of edits makes a step miss that is ruled out, or does it with fewer edits."""

    def compare(self, one, licence, lists):
        found, seen = self.misses(one, licence), 0
        for edits in lists:
            for step in one.misses(edits):
                self.assertIn(step, found, edits)
                self.assertLessEqual(len(found[step]), len(edits))
                seen += 1
        return seen, [len(edits) for edits in found.values()]

    def test_all_lists_of_one_and_two_edits(self):
        chance = random.Random(111)
        trials, seen = Trials(chance), 0
        for _ in range(100):
            trials.renew()
            start = trials.start(3, 1)
            one = Held(start, trials.script(start, 5))
            licence = trials.licence(start, ["h", "k", "m"], chance.choice([0.2, 0.4]))
            universe = Universe(chance, [one.script()], licence, start.aim, 1)
            seen += self.compare(one, licence, universe.lists(start, licence, 2, EVERY))[0]
        self.assertGreater(seen, 1500)

    def test_where_it_takes_two_edits(self):
        start = Start([("h", (("eq", "b", "a"),)), ("k", (("eq", "a", "b"),))], [], ATOM)
        one = held(("copy", ("all", ("lt", "", "")), "m"), ("turn", ("like", ("eq", "a", "b"))), start=start)
        licence = Licence(more=ROWS[:1], turn=ROWS[:1], call=ROWS[:1], out=ROWS[:1])
        universe = Universe(random.Random(112), [one.script()], licence, start.aim, 3)
        seen, lengths = self.compare(one, licence, universe.lists(start, licence, 3, EVERY))
        self.assertEqual(lengths, [2])
        self.assertGreater(seen, 10)

    def test_longer_lists_by_chance(self):
        chance = random.Random(113)
        trials, seen = Trials(chance), 0
        for _ in range(40):
            trials.renew()
            start = trials.start(4, 2)
            one = Held(start, trials.script(start, 6))
            licence = trials.licence(start, ["h", "k", "m"], chance.choice([0.2, 0.6]))
            universe = Universe(chance, [one.script()], licence, start.aim, 4)
            seen += self.compare(one, licence, universe.lists(start, licence, 4, 3))[0]
        self.assertGreater(seen, 500)


class WholeTest(PinCase):
    def test_one_held_and_several_licences_by_turns(self):
        chance = random.Random(114)
        trials = Trials(chance)
        for _ in range(10):
            trials.renew()
            start = trials.start(3, 2)
            script = trials.script(start, 5)
            one = Held(start, script)
            licences = [trials.licence(start, ["h", "k"], 0.4) for _ in range(3)] * 2
            chance.shuffle(licences)
            for licence in licences:
                new = Held(start, script)
                self.assertEqual(loose(one, licence), loose(new, licence))
                for step in range(len(script)):
                    self.assertEqual(miss_edit(one, licence, step), miss_edit(new, licence, step))
                    self.assertEqual(pin_edit(one, licence, [step]), pin_edit(new, licence, [step]))

    def test_results_are_new_and_pins_stay(self):
        one, pins = Held(START, SCRIPT), [0]
        for ask in (lambda: loose(one, FULL), lambda: miss_edit(one, FULL, 1), lambda: pin_edit(one, FULL, pins)):
            told = ask()
            self.assertNotEqual(told, [])
            told.clear()
            self.assertNotEqual(ask(), [])
        enough(one, FULL, pins)
        self.assertEqual(pins, [0])

    def test_the_largest_inputs(self):
        rows = [("h", (("eq", "a", "b"),)), ("k", (("lt", "b", "c"), ("eq", "c", "d"))), ("h", (("gt", "e", "d"),)),
                ("m", (("eq", "a", "b"),)), ("n", (("eq", "b", "c"),)), ("p", (("lt", "c", "d"),))]
        start = Start(rows, [("t", row[1]) for row in rows[:4]], ("lt", "a", "c"))
        script = Script([("copy", ("book", ("all", ("", "c", ""))), "h"), ("part", ("all", ("", "", "d"))), ("copy", ("all", ("gt", "", "")), "m"),
                         ("turn", ("at", 9)), ("turn", ("at", 5)), ("call", H, "k"), ("turn", K), ("turn", ("name", "n"))])
        licence = Licence(goal="any", book="any", names=["x", "y", "z"], **{sort: rows_of(start) for sort in SORTS})
        one = Held(start, script)
        told = loose(one, licence)
        self.assertIn(3, told)
        edits = miss_edit(one, licence, 3)
        self.assertEqual((licence.lets_all(start, edits), len(edits)), (True, 1))
        self.assertIn(3, run_under(one, edits).misses())
