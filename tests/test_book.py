import random
import unittest

from scriptpicks.book import Book
from scriptpicks.edits import Draft
from scriptpicks.errors import (
    BadEdit, BadStep, Full, NoDeed, NoEntry, NoStep, Nothing, PickError, Refused, Stopped, Wrong)
from scriptpicks.runs import is_done
from scriptpicks.scripts import Script
from scriptpicks.starts import Start
from scriptpicks.steps import picks_of, with_pick
from tests.test_runs import H, K, LAST, ONE, SCRIPT, START, THREE, TWO
from tests.trials import Trials, Universe
from tests.values import odd_values

ATOM = ("eq", "x", "y")
TURN = ("turn", H)
DEEDS = [("step", 0, TURN), ("cut", 0), ("swap", 0), ("pick", 0, 0, LAST), ("edit", ("turn", "goal", 0))]
SHORT = Script([("turn", H), ("turn", K), ("call", LAST, "m")])


def behind(start, script, deed):
    """Return (start, script) behind a deed, or None, as the document says it."""
    steps = script.steps()
    try:
        if deed[0] == "edit":
            draft = Draft(start)
            draft.do(deed[1])
            start = draft.start()
        elif deed[0] == "step":
            if deed[1] > len(steps):
                return None
            script = Script(steps[:deed[1]] + [deed[2]] + steps[deed[1]:])
        elif deed[0] == "cut":
            script = script.without(deed[1])
        elif deed[0] == "swap":
            script = script.swapped(deed[1])
        else:
            step = script[deed[1]]
            if deed[2] >= len(picks_of(step)):
                return None
            script = script.with_step(deed[1], with_pick(step, deed[2], deed[3]))
    except (BadEdit, BadStep, NoStep, Wrong):
        return None
    return (start, script) if is_done(start, script) else None


def seen(book):
    """Return all that a Book tells."""
    past = [book.past(many) for many in range(len(book) + 1)]
    return book.start(), book.script(), book.log(), len(book), past


class BookCase(unittest.TestCase):
    def refused(self, book, deed, error, fields):
        """Check that a deed raises an error, and that nothing changes."""
        ahead = seen(book)
        with self.assertRaises(PickError) as caught:
            book.do(deed)
        self.assertIs(type(caught.exception), error)
        self.assertEqual(vars(caught.exception), fields)
        self.assertIs(book.tried(deed), False)
        self.assertEqual(seen(book), ahead)

    def refused_deed(self, book, deed):
        self.refused(book, deed, Refused, {"deed": deed})
        with self.assertRaises(Refused) as caught:
            book.do(deed)
        self.assertIs(caught.exception.deed, deed)

    def done(self, book, deed, start, script):
        self.assertIs(book.tried(deed), True)
        ahead = seen(book)
        self.assertIsNone(book.do(deed))
        self.assertEqual(seen(book), (start, script, ahead[2] + [deed], ahead[3] + 1, ahead[4] + [(start, script)]))


class DeedsTest(BookCase):
    def test_a_new_book(self):
        book = Book(START, SCRIPT)
        self.assertEqual(seen(book), (START, SCRIPT, [], 0, [(START, SCRIPT)]))
        for script, index in [(Script([("turn", ("name", "q"))]), 0), (Script([("turn", H), ("drop", ("all", ("", "", ""))), ("turn", LAST)]), 2)]:
            with self.assertRaises(Stopped) as caught:
                Book(START, script)
            self.assertEqual((type(caught.exception), vars(caught.exception)), (Stopped, {"index": index}))

    def test_steps_cuts_swaps_and_picks(self):
        book = Book(START, SHORT)
        one, two, three = SHORT.steps()
        new = ("copy", ("book", LAST), "n")
        self.done(book, ("step", 3, new), START, Script([one, two, three, new]))
        self.done(book, ("step", 0, new), START, Script([new, one, two, three, new]))
        self.done(book, ("swap", 1), START, Script([new, two, one, three, new]))
        self.done(book, ("cut", 4), START, Script([new, two, one, three]))
        self.done(book, ("pick", 3, 0, ("at", 1)), START, Script([new, two, one, ("call", ("at", 1), "m")]))
        self.done(book, ("pick", 0, 0, ("book", ("all", ("", "", "")))), START, Script([("copy", ("book", ("all", ("", "", ""))), "n"), two, one, ("call", ("at", 1), "m")]))
        self.done(book, ("cut", 0), START, Script([two, one, ("call", ("at", 1), "m")]))
        close = ("close", LAST)
        book = Book(START.with_aim(THREE[1][0]), Script([two]))
        self.done(book, ("step", 1, close), book.start(), Script([two, close]))
        self.done(book, ("cut", 1), book.start(), Script([two]))
        self.done(book, ("cut", 0), book.start(), Script([]))

    def test_edits(self):
        book = Book(START, SHORT)
        row = ("z", (ATOM,))
        start = START.with_row("goal", 0, row)
        self.done(book, ("edit", ("put", "goal", 0, row)), start, SHORT)
        # The edited start is the start from then on: so the row that was put in can be edited, and a row be added to again.
        more = Start([("z", (ATOM, ATOM)), ONE, TWO, THREE], START.book(), START.aim)
        self.done(book, ("edit", ("more", "goal", 0, ATOM, 0)), more, SHORT)
        self.refused_deed(book, ("edit", ("more", "goal", 0, ATOM, 0)))
        parts = Start([("z", (ATOM,)), ("z", (ATOM,)), ONE, TWO, THREE], START.book(), START.aim)
        self.done(book, ("edit", ("part", "goal", 0)), parts, SHORT)
        self.done(book, ("edit", ("more", "goal", 1, ATOM, 1)), Start([("z", (ATOM,)), ("z", (ATOM, ATOM)), ONE, TWO, THREE], START.book(), START.aim), SHORT)
        self.done(book, ("edit", ("out", "goal", 0)), book.start().without_row("goal", 0), SHORT)
        self.done(book, ("edit", ("out", "book", 1)), book.start().without_row("book", 1), SHORT)
        self.assertEqual(book.past(0), (START, SHORT))

    def test_what_cannot_be_done(self):
        book, big = Book(START, SHORT), 10 ** 59
        for deed in [("step", 4, TURN), ("step", big, TURN), ("cut", 3), ("cut", big), ("swap", 2), ("swap", 3), ("swap", big), ("pick", 3, 0, LAST),
                     ("pick", 0, 1, LAST), ("pick", 0, big, LAST), ("pick", big, 0, LAST), ("edit", ("out", "goal", 3)), ("edit", ("put", "book", 3, ONE)),
                     ("edit", ("part", "goal", 0)), ("edit", ("more", "goal", 1, ATOM, 0)), ("edit", ("turn", "goal", big))]:
            self.refused_deed(book, deed)
        # No script: a "close" that is not the last step, and picks that may not stand in a step.
        for deed in [("step", 0, ("close", LAST)), ("pick", 0, 0, ("book", LAST)), ("pick", 2, 0, ("book", ("at", 0)))]:
            self.refused_deed(book, deed)
        closing = Book(START.with_aim(THREE[1][0]), Script([("turn", K), ("close", LAST)]))
        for deed in [("swap", 0), ("step", 2, TURN), ("pick", 1, 0, ("all", ("", "", ""))), ("cut", 2)]:
            self.refused_deed(closing, deed)
        # The run would not be done.
        for deed in [("step", 1, ("turn", ("name", "q"))), ("step", 0, ("drop", K)), ("pick", 1, 0, ("at", 3)), ("edit", ("out", "goal", 1)),
                     ("edit", ("call", "goal", 1, "q")), ("step", 3, ("close", H)), ("step", 0, ("chain", H, K, "t"))]:
            self.refused_deed(book, deed)
        for deed in [("cut", 0), ("swap", 0), ("edit", ("turn", "goal", 2))]:
            self.assertIs(closing.tried(deed), deed == ("cut", 0))

    def test_no_deeds(self):
        book, no = Book(START, SHORT), [(), ((),), ("edit",), ("cut",)]
        for deed in DEEDS:
            no += [deed[:-1], deed + (0,), list(deed), (deed,), deed[::-1], deed[1:]]
            no += [deed[:1] + (bad,) + deed[2:] for bad in (-1, True, False, None, "0", (0,), [0])]
        no += [("step", 0, thing) for thing in odd_values()] + [("pick", 0, 0, thing) for thing in odd_values() if thing != ("last",)]
        no += [("pick", 0, bad, LAST) for bad in (-1, True, False, None, "0")] + [("edit", thing) for thing in odd_values()]
        no += [("steps", 0, TURN), ("do", 0), ("edit", ("out", "goal", -1)), ("edit", ("out", "home", 0)), ("step", 0, ("turn", ("book", LAST))), (None, 0), (0, 0), ((), 0)]
        for thing in no + odd_values():
            with self.subTest(thing=repr(thing)[:60]):
                self.refused(book, thing, NoDeed, {})

    def test_sixty_deeds(self):
        book = Book(START, SHORT)
        for number in range(60):
            self.assertIs(book.tried(("swap", 0)), True)
            book.do(("swap", 0))
        self.assertEqual((len(book), len(book.log()), book.script()), (60, 60, SHORT))
        for deed in DEEDS + [("cut", 7), ("edit", ("out", "goal", 9))]:
            self.refused(book, deed, Full, {"limit": 60})
        self.refused(book, ("cut", -1), NoDeed, {})
        self.refused(book, None, NoDeed, {})
        self.assertEqual(book.back(), ("swap", 0))
        self.refused_deed(book, ("cut", 7))
        self.assertEqual(book.again(), ("swap", 0))
        self.refused(book, ("cut", 0), Full, {"limit": 60})
        book.back()
        book.do(("cut", 0))
        self.assertEqual((len(book), len(book.script())), (60, 2))


class BackAndAgainTest(BookCase):
    def nothing(self, *calls):
        for call in calls:
            with self.assertRaises(Nothing) as caught:
                call()
            self.assertEqual((type(caught.exception), vars(caught.exception)), (Nothing, {}))

    def test_back_and_again(self):
        book = Book(START, SHORT)
        self.nothing(book.back, book.again)
        stands = [seen(book)]
        for deed in DEEDS:
            book.do(deed)
            stands.append(seen(book))
        for deed, stand in list(zip(DEEDS, stands))[::-1]:
            self.assertEqual(book.back(), deed)
            self.assertEqual(seen(book), stand)
        self.nothing(book.back)
        for deed, stand in zip(DEEDS, stands[1:]):
            self.assertEqual(book.again(), deed)
            self.assertEqual(seen(book), stand)
        self.nothing(book.again)

    def test_a_deed_ends_what_can_be_done_again(self):
        book = Book(START, SHORT)
        for deed in DEEDS[:2]:
            book.do(deed)
        book.back()
        # What raises an error, and what only asks, ends nothing.
        for deed in (None, ("cut", 9), ("step", 0, ("turn", ("name", "q")))):
            self.assertRaises(PickError, book.do, deed)
            book.tried(deed)
        book.tried(("cut", 0))
        self.assertEqual(book.again(), DEEDS[1])
        book.back()
        book.back()
        book.do(("swap", 0))
        self.nothing(book.again)
        self.assertEqual(book.log(), [("swap", 0)])

    def test_the_past(self):
        book = Book(START, SHORT)
        book.do(DEEDS[0])
        book.do(DEEDS[4])
        self.assertEqual(book.past(0), (START, SHORT))
        self.assertEqual(book.past(1), (START, Script([TURN] + SHORT.steps())))
        self.assertEqual(book.past(2), (book.start(), book.script()))
        self.assertIs(type(book.past(1)), tuple)
        for many in [3, -1, 10 ** 59, True, False] + odd_values():
            with self.assertRaises(NoEntry) as caught:
                book.past(many)
            self.assertIs(type(caught.exception), NoEntry)
            self.assertIs(caught.exception.many, many)
        book.back()
        self.assertRaises(NoEntry, book.past, 2)

    def test_copies(self):
        book = Book(START, SHORT)
        for deed in DEEDS[:3]:
            book.do(deed)
        book.back()
        other = book.copied()
        self.assertEqual(seen(other), seen(book))
        self.assertEqual(other.again(), DEEDS[2])
        self.assertEqual(len(book), 2)
        other.back()
        other.do(("cut", 0))
        self.nothing(other.again)
        self.assertEqual(book.again(), DEEDS[2])
        self.assertEqual((len(book), len(other)), (3, 3))
        for each in (book, other):
            each.back()
            each.back()
            self.assertEqual(each.back(), DEEDS[0])
            self.nothing(each.back)

    def test_equality(self):
        book, other = Book(START, SHORT), Book(Start(START.goal(), START.book(), START.aim), Script(SHORT.steps()))
        self.assertIs(book == other, True)
        self.assertIs(book != other, False)
        book.do(DEEDS[0])
        self.assertIs(book == other, False)
        other.do(DEEDS[0])
        self.assertIs(book == other, True)
        other.back()
        book.back()
        book.do(DEEDS[3])
        book.back()
        # What can be done again does not count, nor what stands if the log is another one.
        self.assertIs(book == other, True)
        other.do(("swap", 0))
        other.do(("swap", 0))
        self.assertEqual((other.start(), other.script()), (book.start(), book.script()))
        self.assertIs(book == other, False)
        for thing in [None, 0, SHORT, START, (START, SHORT), [], Book(START.with_aim(ATOM), SHORT), Book(START, SHORT.without(0))]:
            self.assertIs(Book(START, SHORT) == thing, False)

    def test_results_are_new(self):
        book = Book(START, SHORT)
        book.do(DEEDS[0])
        book.log().clear()
        book.start().goal().clear()
        book.script().steps().clear()
        self.assertEqual((len(book), book.log(), len(book.script())), (1, DEEDS[:1], 4))


class ChanceTest(BookCase):
    def test_against_a_model(self):
        chance = random.Random(161)
        trials, results = Trials(chance), []
        for _ in range(40):
            trials.renew()
            start = trials.start(4, 2)
            script = trials.script(start, 4)
            book, stands, deeds, undone = Book(start, script), [(start, script)], [], []
            for _ in range(25):
                kind = chance.choice(["step", "cut", "swap", "pick", "edit", "edit", "back", "again"])
                index = chance.randrange(len(book.script()) + 2)
                if kind in ("back", "again"):
                    if not (deeds if kind == "back" else undone):
                        self.assertRaises(Nothing, book.back if kind == "back" else book.again)
                        continue
                    if kind == "back":
                        undone.append(deeds.pop())
                        stands.pop()
                        self.assertEqual(book.back(), undone[-1])
                    else:
                        deeds.append(undone.pop())
                        stands.append(behind(*stands[-1], deeds[-1]))
                        self.assertEqual(book.again(), deeds[-1])
                else:
                    edits = Universe(chance, [script], trials.licence(start, ["h"], 1), start.aim, 2).edits(Draft(book.start()), trials.licence(start, ["h"], 1))
                    edit = chance.choice(edits or [("out", "goal", 7)])
                    deed = {"step": ("step", index, trials.step()), "cut": ("cut", index), "swap": ("swap", index),
                            "pick": ("pick", index, chance.randrange(2), trials.pick()), "edit": ("edit", edit)}[kind]
                    stand = behind(*stands[-1], deed)
                    results.append(stand is not None)
                    if stand is None:
                        self.refused_deed(book, deed)
                    else:
                        self.done(book, deed, *stand)
                        stands.append(stand)
                        deeds.append(deed)
                        undone = []
                self.assertEqual(seen(book), (*stands[-1], deeds, len(deeds), stands))
        self.assertGreater(min(results.count(True), results.count(False)), 100)
