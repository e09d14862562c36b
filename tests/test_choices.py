import random
import unittest

from scriptpicks.choices import choices, mended
from scriptpicks.held import Held
from scriptpicks.licences import Licence
from scriptpicks.picks import bare, home_of, is_single, picks_to
from scriptpicks.pins import loose
from scriptpicks.runs import picks, walk
from scriptpicks.scripts import Script
from scriptpicks.starts import Start
from scriptpicks.steps import picks_of, with_pick
from tests.test_runs import ALL, H, K, LAST, ONE, SCRIPT, START, THREE, TWO
from tests.test_strays import ATOM, FULL, ROWS, held, run_under
from tests.trials import EVERY, SORTS, WORDS, Trials, Universe, rows_of


def tried_picks(one, step, number):
    """Return the picks that pick the row that a single pick picks, as the document says it."""
    pick = picks_of(one.script()[step])[number]
    rows = one.start().book() if home_of(pick) == "book" else list(walk(one.start(), one.script()))[step]
    found = picks_to(rows, picks(one.start(), one.script())[step][number][0])
    return [("book", other) for other in found] if home_of(pick) == "book" else found


def with_other(one, step, number, pick):
    """Return the Held of the script with another pick in the place of one."""
    return Held(one.start(), one.script().with_step(step, with_pick(one.script()[step], number, pick)))


def word_of(one, edits, step, number):
    """Return the word of a pick under edits, as the model of the held run tells it, or None."""
    words = run_under(one, edits).words
    return words[step][number] if step < len(words) else None


class ChoicesCase(unittest.TestCase):
    def told(self, one, licence):
        """Return the choices for all picks, which are compared with the scripts in which they stand, and look at mended."""
        found, script, left = {}, one.script(), []
        for step, (told, pieces) in enumerate([(step, picks_of(step)) for step in one.script().steps()]):
            misses = [False] * len(pieces)
            for number, pick in enumerate(pieces):
                picked = choices(one, licence, step, number)
                found[(step, number)] = picked
                if not is_single(pick):
                    self.assertEqual(picked, [])
                    misses[number] = step in loose(one, licence)
                    continue
                tried = tried_picks(one, step, number)
                self.assertEqual(picked, [other for other in tried if other in picked])
                self.assertEqual(picked, sorted(picked))
                for other in tried:
                    self.compare(with_other(one, step, number, other), licence, step, len(pieces), other in picked)
                # Each single pick is among those that are tried: so it can miss if it is no choice.
                self.assertIn(pick, tried)
                if pick not in picked and picked:
                    script = script.with_step(step, with_pick(script[step], number, picked[0]))
                misses[number] = picked == []
            left += [step] * any(misses)
        told, still = mended(one, licence)
        self.assertEqual(told.steps(), script.steps())
        self.assertEqual(still, left)
        self.assertEqual(loose(Held(one.start(), told), licence), still)
        return found

    def compare(self, other, licence, step, many, is_choice):
        """Compare a choice with the loose steps of the script in which it stands."""
        is_loose = step in loose(other, licence)
        if many == 1:
            self.assertIs(is_loose, not is_choice)
        elif not is_choice:
            self.assertIs(is_loose, True)


class ExamplesTest(ChoicesCase):
    def test_the_example(self):
        one = held(("part", K), ("chain", ("like", ("eq", "a", "")), ("like", ("lt", "b", "")), "t"), ("turn", H))
        none = Licence(goal="front", patterns=[("eq", "", "")])
        told = self.told(one, none)
        self.assertEqual(told[(1, 0)], [("like", ("", "", "b")), ("like", ("", "a", "")), ("like", ("", "a", "b")), ("like", ("eq", "", "b")),
                                        ("like", ("eq", "a", "")), ("like", ("eq", "a", "b"))])
        self.assertEqual(mended(Held(START, SCRIPT), none)[0].steps(), [
            SCRIPT[0], ("chain", ("like", ("", "", "b")), ("like", ("lt", "b", "")), "t"), SCRIPT[2]])
        self.told(Held(START, SCRIPT), none)

    def test_a_licence_that_allows_nothing(self):
        one = Held(START, SCRIPT)
        told = self.told(one, Licence())
        for (step, number), picked in told.items():
            self.assertEqual(picked, tried_picks(one, step, number))
        self.assertEqual(mended(one, Licence())[0], SCRIPT)
        self.assertEqual(mended(held(), FULL), (Script([]), []))

    def test_picks_that_are_not_single(self):
        one = held(("turn", ALL), ("copy", ("book", ("all", ("lt", "", ""))), "m"), ("drop", ("all", ("", "q", ""))))
        self.assertEqual(self.told(one, Licence(goal="any", book="any", turn=ROWS, part=ROWS)), {(0, 0): [], (1, 0): [], (2, 0): []})
        self.assertEqual(mended(one, Licence(turn=ROWS))[1], [1])
        self.assertEqual(mended(one, Licence(turn=ROWS))[0], one.script())

    def test_in_the_book(self):
        one = held(("copy", ("book", ("name", "pair")), "m"), ("turn", LAST))
        self.assertEqual(self.told(one, Licence(book="back", names=["pair"]))[(0, 0)][:1], [("book", ("at", 1))])
        told = self.told(one, Licence(book="front", names=["pair"]))[(0, 0)]
        self.assertEqual(told[:2], [("book", ("last",)), ("book", ("like", ("", "", "")))])
        self.assertIn(("book", ("name", "pair")), told)
        self.assertEqual(self.told(one, Licence(book="any", call=ROWS))[(0, 0)], [])
        script, left = mended(one, Licence(book="any", call=ROWS))
        self.assertEqual((script, left), (one.script(), [0]))
        script, left = mended(one, Licence(call=[("book", 1)], book="back"))
        self.assertEqual(script.steps(), [("copy", ("book", ("at", 1)), "m"), ("turn", ("last",))])

    def test_each_place_for_rows(self):
        one = held(("turn", H), ("copy", ("book", LAST), "n"))
        expected = {"none": ("at", 2), "front": ("last",), "back": ("at", 2), "any": None}
        for place in WORDS:
            picked = self.told(one, Licence(goal=place, book=place))
            self.assertEqual((picked[(0, 0)] + [None])[0], expected[place])
            self.assertEqual(len(picked[(0, 0)]) > 1, place in ("none", "front"))
        # A name that is barred is a good choice, and a pattern that is.
        self.assertEqual(self.told(one, Licence(goal="any", names=["h"]))[(0, 0)], [("name", "h")])
        self.assertEqual(self.told(one, Licence(goal="any", patterns=[("gt", "", "d")]))[(0, 0)], [("like", ("gt", "", "d")), ("like", ("gt", "e", "d"))])

    def test_what_becomes_of_the_row_itself(self):
        one = held(("turn", LAST), ("turn", LAST))
        for sort, kinds in [("call", ["at", "last", "like"]), ("turn", ["at", "last", "like", "name"]), ("more", ["at", "last", "like", "name"])]:
            picked = self.told(one, Licence(**{sort: [("goal", 2)]}))[(0, 0)]
            self.assertEqual(sorted({pick[0] for pick in picked}), kinds)
        picked = self.told(one, Licence(turn=[("goal", 2)]))[(0, 0)]
        self.assertEqual([pick for pick in picked if pick[0] == "like"], [("like", ("", "", ""))])
        # Another row gets an atom that fits, whatever the pattern is, but for those that are barred.
        one = held(("turn", ("like", ("eq", "q", ""))), start=Start([("h", (("eq", "q", "r"),)), ("k", (("lt", "a", "b"),))], [], ("lt", "a", "b")))
        self.assertEqual(self.told(one, Licence(more=[("goal", 1)]))[(0, 0)], [("at", 0), ("name", "h")])
        picked = self.told(one, Licence(more=[("goal", 1)], patterns=[("eq", "", "")]))[(0, 0)]
        self.assertEqual([pick for pick in picked if pick[0] == "like"], [("like", ("eq",) + part) for part in [("", ""), ("", "r"), ("q", ""), ("q", "r")]])
        # What is out is lost, and does not miss.
        one = held(("turn", LAST), ("turn", LAST))
        self.assertEqual(self.told(one, Licence(out=[("goal", 2)]))[(0, 0)], tried_picks(one, 0, 0))
        self.assertNotIn(("at", 2), self.told(one, Licence(out=[("goal", 1)]))[(0, 0)])
        self.assertNotIn(("at", 2), self.told(one, Licence(part=[("goal", 1)]))[(0, 0)])

    def test_lost_ahead_of_where_it_could_miss(self):
        one = held(("chain", ("at", 0), ("like", ("lt", "b", "")), "t"), ("turn", ("like", ("eq", "a", ""))),
                   start=Start([ONE, ("k", (("lt", "b", "c"),))], [], ATOM))
        licence = Licence(turn=ROWS, out=ROWS)
        self.assertEqual(self.told(one, licence)[(1, 0)], tried_picks(one, 1, 0))
        # A later step that is lost does not help.
        one = held(("turn", ("like", ("eq", "a", ""))), ("turn", H), ("chain", ("like", ("eq", "a", "")), K, "t"),
                   start=Start([ONE, ("k", (("lt", "b", "c"),))], [], ATOM))
        self.assertEqual(one.lost([("turn", "goal", 0)]), 2)
        self.assertEqual(self.told(one, Licence(turn=ROWS[:1]))[(0, 0)], [("at", 0), ("like", ("eq", "", "")), ("name", "h")])

    def test_a_chain_and_a_close(self):
        start = Start([("h", (("lt", "a", "b"),)), ("k", (("lt", "b", "c"),))], [], ("lt", "a", "c"))
        one = held(("chain", H, K, "t"), ("close", LAST), start=start)
        told = self.told(one, Licence(goal="back", names=["h", "k"]))
        self.assertEqual([told[place][0] for place in [(0, 0), (0, 1), (1, 0)]], [("at", 0), ("at", 1), ("last",)])
        # A row that is turned loses the step; one that gets another name misses.
        told = self.told(one, Licence(turn=ROWS, more=ROWS, call=ROWS))
        self.assertEqual(told[(0, 0)], [pick for pick in tried_picks(one, 0, 0) if pick[0] != "name"])
        # A step is loose if the first one of its picks has no choice, too.
        told = mended(one, Licence(goal="any", patterns=[("lt", "b", "")]))
        self.assertEqual(told, (one.script().with_step(0, ("chain", H, ("like", ("lt", "b", "")), "t")), [0]))
        # Only the pick that can miss is replaced.
        self.assertEqual(mended(one, Licence(goal="back", names=["h"])), (one.script().with_step(0, ("chain", H, ("at", 1), "t")), []))


class AllEditsTest(ChoicesCase):
    def test_by_chance(self):
        chance, many = random.Random(141), []
        trials = Trials(chance)
        for _ in range(60):
            trials.renew()
            start = trials.start(3, 2)
            one = Held(start, trials.script(start, 4))
            licence = trials.licence(start, ["h", "k", "m"], chance.choice([0.2, 0.5]))
            many += [len(picked) for picked in self.told(one, licence).values()]
        self.assertGreater(min(many.count(0), len(many) - many.count(0)), 30)

    def test_no_edits_make_a_choice_miss(self):
        chance, seen = random.Random(142), []
        trials = Trials(chance)
        for _ in range(80):
            trials.renew()
            start = trials.start(3, 1)
            one = Held(start, trials.script(start, 4))
            licence = trials.licence(start, ["h", "k", "m"], chance.choice([0.2, 0.4]))
            step = chance.randrange(len(one.script())) if len(one.script()) else None
            number = 0 if step is None else chance.randrange(len(picks_of(one.script()[step])))
            if step is None or not is_single(picks_of(one.script()[step])[number]):
                continue
            picked = choices(one, licence, step, number)
            for pick in chance.sample(tried_picks(one, step, number), 1):
                other = with_other(one, step, number, pick)
                universe = Universe(chance, [other.script()], licence, start.aim, 2)
                words = {word_of(other, edits, step, number) for edits in universe.lists(start, licence, 2, EVERY)} - {None}
                if pick in picked:
                    self.assertEqual(words, set())
                seen.append((pick in picked, bool(words)))
        self.assertGreater(seen.count((True, False)), 10)
        self.assertGreater(seen.count((False, True)), 3)


class WholeTest(ChoicesCase):
    def test_several_licences_by_turns_and_new_results(self):
        chance = random.Random(143)
        trials = Trials(chance)
        start = trials.start(3, 2)
        script = trials.script(start, 4)
        one = Held(start, script)
        for licence in [trials.licence(start, ["h", "k"], 0.4) for _ in range(3)] * 2:
            told, new = mended(one, licence), mended(Held(start, script), licence)
            self.assertEqual(told, new)
            told[1].append(7)
            self.assertEqual(mended(one, licence), new)
        told = choices(Held(START, SCRIPT), Licence(), 0, 0)
        told.clear()
        self.assertNotEqual(choices(Held(START, SCRIPT), Licence(), 0, 0), [])
        self.assertEqual(SCRIPT, Held(START, SCRIPT).script())

    def test_the_largest_inputs(self):
        rows = [("h", (("eq", "a", "b"),)), ("k", (("lt", "b", "c"),)), ("h", (("gt", "e", "d"),)), ("m", (("eq", "a", "b"),)),
                ("n", (("eq", "b", "c"),)), ("p", (("lt", "c", "d"),))]
        start = Start(rows, [("t", row[1]) for row in rows[:4]], ("lt", "a", "c"))
        one = held(("copy", ("all", ("", "c", "")), "h"), ("copy", ("all", ("", "", "d")), "m"), ("turn", ("all", ("gt", "", ""))),
                   ("chain", ("at", 0), ("at", 4), "x"), ("chain", ("name", "x"), ("name", "p"), "y"), ("turn", ("name", "n")), ("turn", K),
                   ("call", ("name", "p"), "q"), start=start)
        every = {sort: rows_of(start) for sort in SORTS}
        script, left = mended(one, Licence(goal="any", book="any", names=["n", "k", "p"], **every))
        self.assertEqual(left, sorted(left))
        self.assertEqual(script[2], one.script()[2])
        self.assertEqual(choices(one, Licence(goal="any", book="any", names=["n", "k", "p"]), 7, 0), [("name", "p")])
