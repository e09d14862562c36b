import random
import unittest

from scriptpicks.changes import changes
from scriptpicks.edits import edited
from scriptpicks.held import Held
from scriptpicks.licences import Licence
from scriptpicks.lives import lives
from scriptpicks.options import joined, options_of, spots_of
from scriptpicks.scripts import Script
from scriptpicks.starts import Start
from tests.test_runs import ONE, START, TWO
from tests.test_strays import ATOM
from tests.trials import SORTS, Trials, rows_of


def put(home, gap, name):
    return [("put", home, gap, (name, (ATOM,)))]


class JoinedTest(unittest.TestCase):
    def test_rows_at_one_gap_stand_in_their_order(self):
        start = Start([ONE, TWO], [ONE], ATOM)
        for place, gap in [("front", 0), ("back", 2), ("any", 0), ("any", 1), ("any", 2)]:
            licence = Licence(goal=place, book="back")
            chosen = [put("goal", gap, name) for name in "abcd"] + [put("book", 1, name) for name in "xyz"]
            edits = joined(licence, chosen)
            self.assertIs(licence.lets_all(start, edits), True)
            names = {home: [name for name, fact in self.behind(start, edits).rows(home)] for home in ("goal", "book")}
            self.assertEqual("".join(names["goal"]), "hk"[:gap] + "abcd" + "hk"[gap:])
            self.assertEqual("".join(names["book"]), "hxyz")

    def behind(self, start, edits):
        return edited(start, edits).start()

    def test_changes_of_several_rows(self):
        start = Start([TWO, TWO], [TWO], ATOM)
        every = {sort: rows_of(start) for sort in SORTS}
        for place in ("front", "any", "back"):
            licence = Licence(goal=place, book=place, **every)
            chosen = [put("goal", 0, "a")] if place != "back" else []
            chosen += [[("part", "goal", 0), ("call", "goal", 1, "b")], [("part", "goal", 1), ("out", "goal", 1)]]
            chosen += [put("goal", 2, "c")] if place != "front" else []
            chosen += [[("part", "book", 0), ("call", "book", 0, "d")]]
            told = self.behind(start, joined(licence, chosen))
            self.assertIs(licence.lets_all(start, joined(licence, chosen)), True)
            names = "".join(name for name, fact in told.goal())
            self.assertEqual(names, "a" * (place != "back") + "kbk" + "c" * (place != "front"))
            self.assertEqual([fact for name, fact in told.goal() if name == "k"], [TWO[1][:1], TWO[1][1:]])
            self.assertEqual([name for name, fact in told.book()], ["d", "k"])


class OptionsTest(unittest.TestCase):
    def test_each_option_is_a_shortest_one(self):
        chance = random.Random(191)
        trials = Trials(chance)
        for _ in range(30):
            trials.renew()
            start = trials.start(3, 2)
            one = Held(start, trials.script(start, 4))
            licence = trials.licence(start, ["h", "k"], 0.5)
            told = options_of(one, licence)
            expected = {}
            for home, gap, row, misses, adds in lives(one, licence):
                expected.setdefault((False, home, gap), {})[(None, tuple(misses), tuple(adds))] = 1
            for home, k in rows_of(start):
                found = expected.setdefault((True, home, k), {})
                for rows, edits, lost, misses, adds in changes(one, licence, home, k):
                    what = (lost, tuple(misses), tuple(adds))
                    found[what] = min(len(edits), found.get(what, 99))
            for spot, options in zip(spots_of(start), told):
                self.assertEqual({what: len(edits) for what, edits in options.items()}, expected.get(spot, {}))
            self.assertEqual(len(told), len(spots_of(start)))

    def test_the_spots(self):
        self.assertEqual(spots_of(Start([ONE, TWO], [], ATOM)), [
            (False, "goal", 0), (True, "goal", 0), (False, "goal", 1), (True, "goal", 1), (False, "goal", 2), (False, "book", 0)])
        self.assertEqual(len(options_of(Held(START, Script([])), Licence())), 12)
