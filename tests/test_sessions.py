import random
import unittest

from scriptpicks.errors import Closed, Nothing, NotPicked, PickError, Stuck, Wrong
from scriptpicks.runs import ends, picks
from scriptpicks.scripts import Script
from scriptpicks.sessions import Session
from scriptpicks.starts import Start
from scriptpicks.steps import done
from tests.test_runs import ALL, GOALS, H, K, LAST, SCRIPT, START, some_steps
from tests.values import odd_values

TURN, DROP, CALL = ("turn", H), ("drop", K), ("call", LAST, "m")
CLOSE = ("close", LAST)


class Oops(BaseException):
    """An error that is no Exception."""


def made(*steps):
    session = Session(START)
    for step in steps:
        session.do(step)
    return session


class SessionTest(unittest.TestCase):
    def stand(self, session):
        """Return all that can be told of a session, and of what can be undone and done again."""
        told = [session.goal(), session.script().steps(), session.closed, len(session), session.start()]
        other = session.copied()
        again = []
        while True:
            try:
                again.append(other.again())
            except Nothing:
                break
        return told + [again, other.goal()]

    def assert_stays(self, session, error, act, **fields):
        before = self.stand(session)
        with self.assertRaises(PickError) as caught:
            act()
        self.assertIs(type(caught.exception), error)
        self.assertEqual(vars(caught.exception), fields)
        self.assertEqual(self.stand(session), before)

    def test_at_first(self):
        session = Session(START)
        self.assertEqual([session.goal(), session.start(), session.script(), len(session)], [START.goal(), START, Script([]), 0])
        self.assertIs(session.closed, False)
        self.assert_stays(session, Nothing, session.back)
        self.assert_stays(session, Nothing, session.again)

    def test_the_example_step_by_step(self):
        session = Session(START)
        for index, step in enumerate(SCRIPT.steps()):
            self.assertIs(session.closed, False)
            self.assertEqual(session.would(step), picks(START, SCRIPT)[index])
            self.assertEqual(session.goal(), GOALS[index])
            self.assertEqual(session.do(step), picks(START, SCRIPT)[index])
            self.assertEqual([session.goal(), len(session)], [GOALS[index + 1], index + 1])
        self.assertIs(session.closed, True)
        self.assertEqual(session.script(), SCRIPT)

    def test_in_place(self):
        session = kept = Session(START)
        session += TURN
        self.assertIs(session, kept)
        self.assertEqual(session, made(TURN))
        for step, error, fields in [(None, Wrong, {"place": 0}), (("turn", ("name", "q")), NotPicked, {"number": 0})]:
            with self.assertRaises(error) as caught:
                session += step
            self.assertEqual(vars(caught.exception), fields)
        self.assertIs(session, kept)
        self.assertEqual(session, made(TURN))

    def test_errors_of_do_and_would(self):
        session = made(TURN, DROP)
        session.back()
        for act in (session.do, session.would):
            for thing in odd_values() + [("close", ALL), ("turn", ("book", LAST)), list(TURN), ("chain", H, K)]:
                with self.subTest(thing=repr(thing)[:60]):
                    self.assert_stays(session, Wrong, lambda: act(thing), place=0)
            self.assert_stays(session, NotPicked, lambda: act(("turn", ("at", 3))), number=0)
            self.assert_stays(session, NotPicked, lambda: act(("chain", H, ("name", "q"), "m")), number=1)
            self.assert_stays(session, NotPicked, lambda: act(("copy", ("book", ("name", "k")), "m")), number=0)
            self.assert_stays(session, Stuck, lambda: act(("chain", H, H, "m")))
            self.assert_stays(session, Stuck, lambda: act(("close", K)))
        # What can be done again stands until do does a step.
        self.assertEqual(session.again(), DROP)

    def test_closed_is_told_first(self):
        session = made(*SCRIPT.steps())
        for act in (session.do, session.would):
            for thing in [None, (), TURN, CLOSE, ("turn", ("name", "q")), ("close", K), ("x",) * 4990]:
                self.assert_stays(session, Closed, lambda: act(thing))
        with self.assertRaises(Closed):
            session += TURN
        self.assertEqual(session.back(), CLOSE)
        self.assertIs(session.closed, False)
        self.assertEqual(session.do(TURN), [[3]])
        self.assertIs(session.closed, False)
        self.assert_stays(session, Nothing, session.again)

    def test_a_close_at_once(self):
        session = Session(START.with_aim(("eq", "a", "b")))
        session += ("close", ("at", 0))
        self.assertIs(session.closed, True)
        self.assert_stays(session, Closed, lambda: session.do(("close", ("at", 0))))

    def test_again_behind_a_close(self):
        session = made(*SCRIPT.steps())
        self.assertEqual([session.back(), session.again()], [CLOSE, CLOSE])
        self.assertIs(session.closed, True)
        self.assert_stays(session, Nothing, session.again)

    def test_back_and_again(self):
        session = made(TURN, DROP, CALL)
        goal = session.goal()
        self.assertEqual([session.back(), session.back()], [CALL, DROP])
        self.assertEqual(session, made(TURN))
        self.assertEqual(session.goal(), ends(START, Script([TURN])))
        self.assertEqual(session.again(), DROP)
        self.assertEqual([session.back(), session.back()], [DROP, TURN])
        self.assertEqual(session.goal(), START.goal())
        self.assert_stays(session, Nothing, session.back)
        self.assertEqual([session.again(), session.again(), session.again()], [TURN, DROP, CALL])
        self.assertEqual([session.goal(), session.script()], [goal, Script([TURN, DROP, CALL])])
        self.assert_stays(session, Nothing, session.again)

    def test_a_new_step_forgets_what_was_undone(self):
        session = made(TURN, DROP, CALL)
        session.back()
        session.back()
        session.do(DROP)
        self.assert_stays(session, Nothing, session.again)
        self.assertEqual(session.script(), Script([TURN, DROP]))
        session.back()
        session += CALL
        self.assert_stays(session, Nothing, session.again)
        self.assertEqual(session.back(), CALL)
        self.assertEqual(session.again(), CALL)

    def test_would_forgets_nothing(self):
        session = made(TURN, DROP)
        session.back()
        self.assertEqual(session.would(CALL), [[2]])
        self.assertEqual(session.again(), DROP)

    def test_trial(self):
        session = made(TURN, DROP)
        session.back()
        before = self.stand(session)
        seen = []

        def act(given):
            seen.append(given)
            given.again()
            given.do(CALL)
            given += TURN
            given.back()
            return given.trial(lambda inner: [inner.back(), inner.back(), inner.back(), inner.do(CALL), len(inner)])

        self.assertEqual(session.trial(act), [CALL, DROP, TURN, [[2]], 1])
        self.assertIs(seen[0], session)
        self.assertEqual(self.stand(session), before)
        self.assertEqual(session.trial(len), 1)
        self.assertIs(session.trial(lambda given: given), session)
        self.assertEqual(session.again(), DROP)

    def test_trial_that_raises(self):
        session = made(*SCRIPT.steps())
        session.back()
        session.back()
        before = self.stand(session)
        for error in [Oops("a"), ValueError("b"), Wrong("c"), KeyboardInterrupt(), StopIteration(3)]:
            def act(given):
                given.again()
                given.back()
                given.do(TURN)
                raise error
            with self.assertRaises(type(error)) as caught:
                session.trial(act)
            self.assertIs(caught.exception, error)
            self.assertEqual(self.stand(session), before)

        def fail(given):
            given.again()
            given.again()
            given.do(TURN)
        with self.assertRaises(Closed):
            session.trial(fail)
        self.assertEqual(self.stand(session), before)
        self.assertEqual([session.again(), session.again()], SCRIPT.steps()[1:])

    def test_copied(self):
        session = made(TURN, DROP, CALL)
        session.back()
        other = session.copied()
        self.assertIsInstance(other, Session)
        self.assertEqual(self.stand(other), self.stand(session))
        before = self.stand(session)
        other.do(TURN)
        self.assertEqual(self.stand(session), before)
        self.assertNotEqual(session, other)
        behind = self.stand(other)
        self.assertEqual([session.again(), session.back(), session.back()], [CALL, CALL, DROP])
        self.assertEqual(self.stand(other), behind)
        closed = made(*SCRIPT.steps()).copied()
        self.assertIs(closed.closed, True)

    def test_equality(self):
        self.assertTrue(Session(START) == Session(Start(START.goal(), START.book(), START.aim)))
        self.assertTrue(made(TURN) == made(TURN))
        self.assertFalse(made(TURN) != made(TURN))
        self.assertFalse(made(TURN) == made(TURN, DROP))
        self.assertFalse(made(TURN) == made(DROP))
        self.assertFalse(Session(START) == Session(START.with_aim(("eq", "a", "a"))))
        undone = made(TURN, DROP)
        undone.back()
        self.assertTrue(undone == made(TURN))
        # Steps count, not what they did.
        self.assertFalse(made(("turn", H)) == made(("turn", LAST)))
        for other in [None, START, Script([]), [], 0]:
            self.assertFalse(Session(START) == other)
            self.assertTrue(Session(START) != other)

    def test_what_is_returned_belongs_to_the_caller(self):
        session = made(TURN)
        for ask in [session.goal, lambda: session.would(CALL), lambda: session.script().steps()]:
            before = ask()
            changed = ask()
            changed.clear()
            self.assertEqual(ask(), before)
        told = session.do(CALL)
        told[0].append(7)
        told.clear()
        self.assertEqual(session.back(), CALL)
        self.assertEqual(session.would(CALL), [[2]])

    def test_random_sessions_against_a_plain_list(self):
        chance, steps = random.Random(53), some_steps() + [CLOSE, None, ("close", ("name", "k"))]
        session, stood, undone = Session(START), [], []
        for _ in range(4000):
            act = chance.choice(["do", "do", "back", "again", "copy"])
            if act == "do":
                step, goal = chance.choice(steps), ends(START, Script(stood))
                try:
                    expected = done(goal, START.book(), step, START.aim)[1] if step else None
                except (NotPicked, Stuck):
                    expected = None
                if expected is None or len(stood) > 5 or stood and stood[-1][0] == "close":
                    if len(stood) <= 5:
                        self.assertRaises(PickError, session.do, step)
                else:
                    self.assertEqual(session.do(step), expected)
                    stood, undone = stood + [step], []
            elif act == "copy":
                session = session.copied()
            else:
                source, target = (stood, undone) if act == "back" else (undone, stood)
                if source:
                    self.assertEqual(session.back() if act == "back" else session.again(), source[-1])
                    target.append(source.pop())
                else:
                    self.assertRaises(Nothing, session.back if act == "back" else session.again)
            self.assertEqual([session.script(), session.goal()], [Script(stood), ends(START, Script(stood))])
            self.assertIs(session.closed, stood != [] and stood[-1][0] == "close")
