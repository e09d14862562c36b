import itertools
import random
import unittest

from scriptpicks.changes import changes
from scriptpicks.errors import TooMany
from scriptpicks.held import Held
from scriptpicks.licences import Licence
from scriptpicks.lives import lives
from scriptpicks.scripts import Script
from scriptpicks.starts import Start
from scriptpicks.sums import can_miss, is_closed, states
from tests.models import done_script
from tests.test_runs import ALL, H, K, LAST, SCRIPT, START, some_steps
from tests.values import odd_values

SORTS = ("call", "more", "out", "part", "turn")
ROWS = [("goal", 0), ("goal", 1), ("goal", 2), ("book", 0), ("book", 1)]
WORDS = ["none", "front", "back", "any"]
PLACES = [("turn", ("at", at)) for at in range(5)] + [("copy", ("book", ("at", at)), "m") for at in range(2)]


def held(*steps):
    return Held(START, Script(list(steps)))


class Told:
    """The states of a step as point 81 says them, from what `lives` and `changes` tell."""

    def __init__(self, one, licence, step):
        self.step, start = step, one.start()
        self.places = [place for place in one.script().places() if place[0] <= step]
        self.spots = [(home, at) for home in ("goal", "book") for at in range(2 * len(start.rows(home)) + 1)]
        self.moves, entries = [], lives(one, licence)
        for home, at in self.spots:
            if at % 2:
                self.moves.append([(self.adds(adds), step in misses, edits) for _, edits, lost, misses, adds in changes(one, licence, home, at // 2)
                                   if (lost is None or lost > step) and not any(index < step for index in misses)])
            else:
                self.moves.append([(self.adds(adds), step in misses, row) for at_home, gap, row, misses, adds in entries
                                   if (at_home, gap) == (home, at // 2) and not any(index < step for index in misses)])
        self.first = (0, (0,) * len(self.places), False)

    def adds(self, adds):
        told = {entry[:2]: entry[2] for entry in adds}
        return tuple(told[place] for place in self.places)

    def rest(self, at, number):
        return sum(max(-adds[number] for adds, _, _ in self.moves[spot]) for spot in range(at, len(self.spots)) if self.spots[spot][1] % 2)

    def told(self, state):
        at, sums, missed = state
        result = []
        for number, (total, place) in enumerate(zip(sums, self.places)):
            rest = self.rest(at, number)
            if total > rest and place[0] < self.step:
                return None
            result.append(min(total, rest + 1))
        return at, tuple(result), missed

    def behind(self, state):
        """Return the dict from the states to which one comes to the row or the edits by which one does, or None."""
        at, sums, missed = state
        if at == len(self.spots):
            return {}
        is_row = self.spots[at][1] % 2
        found = {} if is_row else {(at + 1, sums, missed): None}
        for adds, misses, what in self.moves[at]:
            state = (at + is_row, tuple(one + more for one, more in zip(sums, adds)), missed or misses)
            found.setdefault(self.told(state), what)
        found.pop(None, None)
        return found

    def all_states(self):
        """Return the dict from all states to (state ahead, what leads from there)."""
        found, left = {self.first: None}, [self.first]
        for state in left:
            for reached, what in self.behind(state).items():
                if reached not in found:
                    found[reached] = (state, what)
                    left.append(reached)
        return found

    def tells(self, state):
        at, sums, missed = state
        earlier = [total for total, place in zip(sums, self.places) if place[0] < self.step]
        own = [total for total, place in zip(sums, self.places) if place[0] == self.step]
        return at == len(self.spots) and not any(earlier) and (missed or any(own))

    def edits(self, found, state, licence):
        """Return edits that lead to a state, those of the last spots first, so that the numbers ahead stay."""
        edits, puts = [], {}
        while found[state] is not None:
            ahead, what = found[state]
            home, at = self.spots[ahead[0]]
            if at % 2:
                edits += what
            elif what is not None:
                many = puts.get((home, at), 0)
                edits.append(("put", home, at // 2 + (0 if licence.where(home) == "front" else many), what))
                puts[(home, at)] = many + 1
            state = ahead
        return edits


def small_edits(one, licence):
    """Yield lists of edits that the licence allows: changes of at most two rows, and at most one put."""
    start = one.start()
    options = [[entry[1] for entry in changes(one, licence, home, k)] for home, k in ROWS]
    puts = [[]] + [[("put", home, gap, row)] for home, gap, row, _, _ in lives(one, licence)]
    for (one_at, one_options), (two_at, two_options) in itertools.combinations(list(enumerate(options)), 2):
        for first, second in itertools.product(one_options, two_options):
            order = first + second if ROWS[one_at][0] != ROWS[two_at][0] else second + first
            for put in puts:
                yield put_last(start, order, put)


def put_last(start, edits, put):
    """Return the edits with a put ahead of them, and the numbers behind it one higher."""
    if not put:
        return edits
    home, gap = put[0][1:3]
    return put + [edit[:2] + (edit[2] + (edit[1] == home and edit[2] >= gap),) + edit[3:] for edit in edits]


class StatesTest(unittest.TestCase):
    def check(self, one, licence):
        """Check all steps; return which of them can be the first to miss."""
        result = []
        for step in range(len(one.script())):
            told, model = states(one, licence, step), Told(one, licence, step)
            found = model.all_states()
            self.assertEqual(told, sorted(found))
            self.assertIs(is_closed(one, licence, step, told), True)
            self.assertEqual([can_miss(one, step, state) for state in told], [model.tells(state) for state in told])
            ends = [state for state in told if model.tells(state)]
            for state in ends[:3]:
                edits = model.edits(found, state, licence)
                self.assertIs(licence.lets_all(one.start(), edits), True)
                outcome = one.outcome(edits)
                self.assertEqual((outcome[0], outcome[1] in ("none", "other")), (step, True))
            result.append(bool(ends))
        return result

    def random_licence(self, chance, more):
        return Licence(goal=chance.choice(WORDS), book=chance.choice(WORDS), names=chance.sample(["h", "k", "m"], chance.randrange(3)),
                       **{sort: [row for row in ROWS if chance.random() < 0.5] for sort in SORTS if sort != "more" or more})

    def test_the_example(self):
        one = Held(START, SCRIPT)
        self.assertEqual(self.check(one, Licence(goal="any", names=["k"])), [False, True, False])
        self.assertEqual(self.check(one, Licence(goal="back")), [True, True, False])
        self.assertEqual(self.check(one, Licence(turn=[("goal", 0), ("goal", 2)], out=[("goal", 1)])), [False] * 3)

    def test_without_moves(self):
        one = held(("turn", H), ("turn", ("at", 0)), ("copy", ("at", 1), "m"), ("turn", K))
        for step, sums in enumerate([(), (0,), (0, 0), (0, 0)]):
            expected = [(at, sums, False) for at in range(13)]
            self.assertEqual(states(one, Licence(), step), expected)
            self.assertIs(is_closed(one, Licence(), step, expected), True)
        empty = Held(Start([], [], ("eq", "a", "a")), Script([("turn", ALL)]))
        self.assertEqual(states(empty, Licence(), 0), [(0, (), False), (1, (), False), (2, (), False)])

    def test_sums_of_its_own_picks_are_told_as_the_rest_and_1(self):
        one = held(("turn", ("at", 2)))
        told = states(one, Licence(goal="any"), 0)
        # Nothing can be taken away: so the rest is 0, and a sum of 1 stands for all.
        self.assertEqual(told, [(at, (many,), False) for at in range(13) for many in (0, 1)])
        told = states(one, Licence(goal="front", out=[("goal", 0), ("goal", 1)]), 0)
        self.assertEqual(sorted(state[1][0] for state in told if state[0] == 1), [0, 1, 2, 3])
        self.assertEqual(sorted(state[1][0] for state in told if state[0] == 2), [-1, 0, 1, 2])
        self.assertEqual(sorted(state[1][0] for state in told if state[0] == 12), [-2, -1, 0, 1])
        self.assertEqual([can_miss(one, 0, (12, (many,), False)) for many in (-2, -1, 0, 1)], [True, True, False, True])

    def test_sums_of_earlier_steps_are_left_out(self):
        one = held(("turn", ("at", 2)), ("turn", K))
        told = states(one, Licence(goal="any"), 1)
        # At the last gap a row adds nothing for the first step.
        self.assertEqual(told, [(at, (0,), missed) for at in range(13) for missed in ((False, True) if at > 5 else (False,))])
        told = states(one, Licence(goal="any", out=[("goal", 0)]), 1)
        self.assertEqual(sorted({state[1][0] for state in told if state[0] == 1}), [0, 1])
        self.assertEqual(sorted({state[1][0] for state in told if state[0] == 2}), [-1, 0])

    def test_what_makes_an_earlier_step_miss_is_not_fitting(self):
        one = held(("turn", LAST), ("turn", K), ("turn", ("at", 2)))
        for step in (0, 1, 2):
            self.assertEqual(self.check(one, Licence(goal="back"))[step], step == 0)
        licence = Licence(out=[("goal", 1), ("goal", 2)], call=[("goal", 1)], turn=[("goal", 2)])
        self.assertEqual(self.check(one, licence), [False, True, False])
        # A row that is out loses the first step, and so does not count among the rests.
        self.assertEqual({state[1] for state in states(one, licence, 2)}, {(0,)})
        self.assertEqual({state[1] for state in states(held(("turn", ("at", 2))), licence, 0)}, {(0,), (-1,)})

    def test_random_scripts_and_licences(self):
        chance, steps = random.Random(81), some_steps() + PLACES * 8
        seen = []
        for _ in range(120):
            one = Held(START, done_script(START, chance, steps, 6))
            if len(one.script().places()) < 4:
                seen += self.check(one, self.random_licence(chance, chance.random() < 0.1))
        self.assertGreater(min(seen.count(True), seen.count(False)), 60)

    def test_against_all_small_edits(self):
        """Where a small list of edits makes a step the first to miss, a state tells so."""
        chance, steps = random.Random(82), some_steps() + PLACES * 12
        seen = 0
        for _ in range(25):
            one = Held(START, done_script(START, chance, steps, 4))
            licence = self.random_licence(chance, False) & Licence(
                goal=chance.choice(WORDS), names=["k"], patterns=[("lt", "", "")], **{sort: chance.sample(ROWS, 2) for sort in SORTS})
            can = self.check(one, licence)
            for number, edits in enumerate(small_edits(one, licence)):
                if number == 400:
                    break
                self.assertIs(licence.lets_all(START, edits), True)
                outcome = one.outcome(edits)
                if outcome is not None and outcome[1] != "lost":
                    self.assertIs(can[outcome[0]], True)
                    seen += 1
        self.assertGreater(seen, 300)

    def test_most(self):
        one = held(("turn", ("at", 2)), ("turn", ("at", 1)), ("turn", LAST))
        licence = Licence(goal="any", out=[("goal", 0), ("goal", 1)])
        for step in range(3):
            told = states(one, licence, step)
            self.assertEqual(states(one, licence, step, most=len(told)), told)
            for most in (1, 2, len(told) - 1):
                with self.assertRaises(TooMany) as caught:
                    states(one, licence, step, most=most)
                self.assertEqual(vars(caught.exception), {"most": most})
        self.assertRaises(TypeError, lambda: states(one, licence, 0, 7))

    def test_results_are_new(self):
        one = held(("turn", ("at", 2)))
        told = states(one, Licence(), 0)
        told.clear()
        self.assertEqual(len(states(one, Licence(), 0)), 13)


class ClosedTest(unittest.TestCase):
    ONE = held(("turn", ("at", 1)), ("turn", ("at", 2)), ("turn", K))
    LICENCE = Licence(goal="any", out=[("goal", 0)])

    def closed(self, step, thing):
        return is_closed(self.ONE, self.LICENCE, step, thing)

    def test_any_order_and_each_once(self):
        chance = random.Random(83)
        for step in range(3):
            told = states(self.ONE, self.LICENCE, step)
            for _ in range(5):
                chance.shuffle(told)
                self.assertIs(self.closed(step, told), True)
            self.assertIs(self.closed(step, told + told[:1]), False)
            self.assertIs(self.closed(step, told + told[-1:]), False)

    def test_without_one_of_them(self):
        for step in range(3):
            told = states(self.ONE, self.LICENCE, step)
            for at in range(len(told)):
                self.assertIs(self.closed(step, told[:at] + told[at + 1:]), False)
        self.assertIs(self.closed(0, []), False)

    def test_states_to_which_one_does_not_come(self):
        told = states(self.ONE, self.LICENCE, 0)
        last = (12, (-7,), True)
        self.assertNotIn(last, told)
        self.assertIs(self.closed(0, told + [last]), True)
        self.assertIs(self.closed(0, told + [(12, (-10 ** 59,), False)]), True)
        # From this one one comes to others that are not there.
        self.assertIs(self.closed(0, told + [(11, (-7,), True)]), False)
        self.assertIs(self.closed(0, told + [(11, (-7,), True), last]), True)

    def test_states_that_are_not_told_so(self):
        for step, bad in [(0, (12, (2,), False)), (0, (12, (10 ** 59,), False)), (1, (12, (1, 0), False)), (1, (12, (0, 2), False)), (2, (12, (0, 1), True))]:
            told = states(self.ONE, self.LICENCE, step)
            self.assertIs(self.closed(step, told + [bad]), False)
        self.assertIs(self.closed(1, states(self.ONE, self.LICENCE, 1) + [(12, (-5, 1), False)]), True)

    def test_any_value(self):
        told = states(self.ONE, self.LICENCE, 0)
        for thing in odd_values() + [tuple(told), {state: 1 for state in told}]:
            self.assertIs(self.closed(0, thing), False)
        bad = odd_values() + [
            (12, (0,)), (12, (0,), False, False), [12, (0,), False], (12, [0], False), (12, (0,), 0), (12, (0,), 1), (12, (0,), None),
            (12, (False,), False), (True, (0,), False), (12, (), True), (12, (0, 0), True), (13, (0,), True), (-1, (0,), False),
            (12, (None,), True), (12, ("0",), True), ("12", (0,), True), (12, 0, True), (12, None, True), (None, (0,), True), (10 ** 59, (0,), True)]
        for thing in bad:
            with self.subTest(thing=repr(thing)[:60]):
                self.assertIs(self.closed(0, told + [thing]), False)
                self.assertIs(self.closed(0, [thing] + told), False)
        for at, state in enumerate(told):
            # True is never taken for 1, nor 0 for False.
            for changed in [(bool(state[0]),) + state[1:], state[:2] + (int(state[2]),), (state[0], (bool(state[1][0]),), state[2])]:
                self.assertIs(self.closed(0, told[:at] + [changed] + told[at + 1:]), False)

    def test_can_miss(self):
        for step, state, expected in [
                (0, (12, (0,), False), False), (0, (12, (0,), True), True), (0, (12, (1,), False), True), (0, (12, (-1,), False), True),
                (0, (11, (1,), True), False), (0, (0, (0,), True), False), (1, (12, (0, 0), False), False), (1, (12, (0, 1), False), True),
                (1, (12, (-1, 1), True), False), (1, (12, (-1, 0), True), False), (1, (12, (0, 0), True), True), (2, (12, (0, 0), False), False),
                (2, (12, (0, 0), True), True), (2, (12, (0, -1), True), False), (2, (12, (-1, 0), True), False), (2, (11, (0, 0), True), False)]:
            self.assertIs(can_miss(self.ONE, step, state), expected)
