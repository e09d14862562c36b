import random
import unittest

from scriptpicks.alike import are_alike
from scriptpicks.errors import BadStep, HasPlace, NoStep, Stopped
from scriptpicks.held import Held
from scriptpicks.licences import Licence
from scriptpicks.scripts import Script
from scriptpicks.starts import Start
from scriptpicks.swaps import may_swap, swaps
from tests.test_alike import TO_EQ, TO_LT, parted_by, trials_of
from tests.test_runs import ALL, H, K, LAST, SCRIPT, START, THREE
from tests.test_strays import ATOM, FULL, ROWS, held
from tests.trials import EVERY, SORTS, Trials, Universe, rows_of

PLACE = ("turn", ("at", 0))


class SwapsTest(unittest.TestCase):
    def swaps(self, one, licence):
        """Return what is told, which is compared with the scripts in which the steps are exchanged."""
        told = swaps(one, licence)
        for index in range(len(one.script()) - 1):
            self.assertIs(may_swap(one, licence, index), index in told)
            try:
                other = Held(one.start(), one.script().swapped(index))
            except (BadStep, Stopped):
                self.assertNotIn(index, told)
                continue
            self.assertIs(are_alike(one, other, licence), index in told)
        self.assertEqual(told, sorted(told))
        return told

    def test_the_example(self):
        one = held(("part", K), ("chain", ("like", ("eq", "a", "")), ("like", ("lt", "b", "")), "t"), ("turn", H))
        self.assertEqual(self.swaps(one, Licence(goal="front", patterns=[("eq", "", "")])), [1])
        self.assertEqual(self.swaps(one, Licence(goal="front")), [1])
        self.assertEqual(self.swaps(one, Licence(turn=[("goal", 2)], call=[("goal", 2)])), [1])

    def test_what_a_licence_lets_through(self):
        one = held(("turn", H), ("turn", K))
        for licence in [Licence(), Licence(goal="any", call=ROWS), FULL]:
            self.assertEqual(self.swaps(one, licence), [0])
        one = held(("copy", TO_EQ, "m"), ("copy", ("all", ("gt", "d", "")), "m"), ("drop", ("all", ("gt", "d", ""))))
        for licence in [Licence(), Licence(goal="any", book="any", names=["m"]), Licence(goal="back", patterns=[("eq", "", "")])]:
            self.assertEqual(self.swaps(one, licence), [0, 1])
        one = held(("copy", TO_EQ, "m"), ("drop", ("all", ("gt", "d", ""))))
        self.assertEqual(self.swaps(one, Licence(goal="any", patterns=[("gt", "d", "")])), [0])
        self.assertEqual(self.swaps(one, Licence(goal="any", turn=ROWS, call=ROWS)), [0])
        one = held(("copy", TO_EQ, "m"), ("drop", TO_LT))
        self.assertEqual(self.swaps(one, Licence()), [0])
        # A row that is copied ahead of the drop is there for the copy; behind the drop it is lost.
        self.assertEqual(self.swaps(one, Licence(more=[("goal", 0)])), [])
        one = held(("call", H, "m"), ("turn", ("like", ("gt", "", ""))))
        self.assertEqual(self.swaps(one, Licence()), [0])
        self.assertEqual(self.swaps(one, Licence(goal="back")), [0])

    def test_a_run_that_stops(self):
        one = held(("call", H, "m"), ("turn", ("name", "m")), ("drop", ("name", "m")), ("turn", K))
        self.assertEqual(self.swaps(one, Licence()), [2])
        self.assertEqual(self.swaps(one, FULL), [2])
        self.assertIs(may_swap(one, Licence(), 0), False)

    def test_what_is_no_script(self):
        one = held(("turn", H), ("turn", H), ("close", LAST), start=START.with_aim(THREE[1][0]))
        self.assertEqual(self.swaps(one, Licence()), [0])
        self.assertIs(may_swap(one, Licence(), 1), False)
        self.assertEqual(self.swaps(Held(START, SCRIPT.with_step(1, ("chain", ("like", ("eq", "a", "")), ("like", ("lt", "b", "")), "t"))), FULL), [])

    def test_short_scripts(self):
        for steps in [[], [("turn", H)], [("drop", ALL)]]:
            self.assertEqual(swaps(held(*steps), FULL), [])
        self.assertEqual(swaps(held(("turn", H), ("turn", H)), FULL), [0])

    def test_no_steps(self):
        two, none = held(("turn", H), ("turn", K)), held()
        for one, index, fields in [(two, 1, 2), (two, 2, 2), (two, -1, -1), (two, -2, -2), (two, 10 ** 59, 10 ** 59), (two, -10 ** 59, -10 ** 59),
                                   (none, 0, 0), (none, -1, -1), (held(("turn", H)), 0, 1), (held(PLACE), 0, 1), (held(PLACE, PLACE), 1, 2),
                                   (held(PLACE, PLACE), 2, 2), (held(PLACE), -1, -1)]:
            with self.assertRaises(NoStep) as caught:
                may_swap(one, FULL, index)
            self.assertIs(type(caught.exception), NoStep)
            self.assertEqual(vars(caught.exception), {"index": fields})

    def test_picks_by_at(self):
        book = ("copy", ("book", ("at", 1)), "m")
        for steps, index in [([PLACE], 0), ([("turn", H), PLACE], 1), ([("turn", H), ("turn", K), book, PLACE], 2), ([("turn", H), book, ("turn", H)], 1),
                             ([("part", K), ("chain", ("like", ("eq", "a", "")), ("at", 1), "t")], 1), ([PLACE, ("turn", H), ("turn", H)], 0)]:
            one = held(*steps)
            asks = [lambda: swaps(one, FULL)] + [lambda at=at: may_swap(one, FULL, at) for at in range(len(steps) - 1)]
            for ask in asks:
                with self.assertRaises(HasPlace) as caught:
                    ask()
                self.assertIs(type(caught.exception), HasPlace)
                self.assertEqual(vars(caught.exception), {"index": index})
        # The pick by "at" is told first, also where the exchanged steps are no script.
        one = held(PLACE, ("turn", H), ("close", LAST), start=START.with_aim(("lt", "d", "e")))
        with self.assertRaises(HasPlace):
            may_swap(one, FULL, 1)

    def test_against_all_edits(self):
        chance, told = random.Random(131), []
        trials = Trials(chance, False)
        while len(told) < 90:
            trials.renew()
            start = trials.start(3, 1)
            one = Held(start, trials.script(start, 4))
            licence = trials_of(chance, one).licence(start, ["h", "k", "m"], chance.choice([0.2, 0.5]))
            free = self.swaps(one, licence)
            for index in free[:1]:
                other = Held(start, one.script().swapped(index))
                universe = Universe(chance, [one.script()], licence, start.aim, 2)
                for edits in universe.lists(start, licence, 2, EVERY):
                    self.assertIs(parted_by(one, other, edits), False)
            told += [index in free for index in range(len(one.script()) - 1)]
        self.assertGreater(min(told.count(True), told.count(False)), 20)

    def test_results_are_new(self):
        one = held(("turn", H), ("turn", K))
        told = swaps(one, FULL)
        told.clear()
        self.assertEqual(swaps(one, FULL), [0])

    def test_the_largest_inputs(self):
        rows = [("h", (("eq", "a", "b"),)), ("k", (("lt", "b", "c"), ("eq", "c", "d"))), ("h", (("gt", "e", "d"),)),
                ("m", (("eq", "a", "b"),)), ("n", (("eq", "b", "c"),)), ("p", (("lt", "c", "d"),))]
        start = Start(rows, [("t", row[1]) for row in rows[:4]], ("lt", "a", "c"))
        one = held(("copy", ("book", ("all", ("", "c", ""))), "h"), ("part", ("all", ("", "", "d"))), ("copy", ("all", ("gt", "", "")), "m"),
                   ("turn", ("name", "p")), ("turn", ("name", "p")), ("call", H, "k"), ("turn", K), ("turn", ("name", "n")), start=start)
        licence = Licence(goal="any", book="any", names=["x", "y", "z"], **{sort: rows_of(start) for sort in SORTS})
        self.assertIn(3, swaps(one, licence))
