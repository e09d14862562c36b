import unittest

from scriptpicks.errors import BadStep, NoStep, Wrong
from scriptpicks.scripts import Script
from tests.values import deep_list, odd_values

H, K, LAST = ("name", "h"), ("name", "k"), ("last",)
TURN, PART, CALL, CLOSE = ("turn", H), ("part", K), ("call", LAST, "m"), ("close", LAST)
CHAIN = ("chain", ("at", 0), ("like", ("lt", "b", "")), "t")
NO_INDEX = [-1, True, False, None, "0", "", [0], (0,), {}, {0}, 10 ** 59, -10 ** 59, deep_list(20), slice(0, 1), H]


class ScriptTest(unittest.TestCase):
    def assert_raises(self, error, function, *arguments):
        with self.assertRaises(error) as caught:
            function(*arguments)
        self.assertIs(type(caught.exception), error)
        return caught.exception

    def assert_no_step(self, index, function, *arguments):
        self.assertIs(self.assert_raises(NoStep, function, *arguments).index, index)

    def test_steps(self):
        steps = [TURN, PART, CHAIN, CLOSE]
        script = Script(steps)
        self.assertEqual(script.steps(), steps)
        self.assertEqual(len(script), 4)
        self.assertEqual([script[index] for index in range(4)], steps)
        self.assertIs(type(Script(tuple(steps)).steps()), list)
        self.assertIs(Script(tuple(steps)) == script, True)

    def test_empty(self):
        script = Script([])
        self.assertEqual([len(script), script.steps(), script.names(), script.patterns(), script.places()], [0, [], [], [], []])
        self.assertIs(script == Script(()), True)
        self.assertIs(script + script == script, True)
        for function in [script.__getitem__, script.without, script.swapped, lambda index: script.with_step(index, TURN)]:
            self.assert_no_step(0, function, 0)

    def test_wrong(self):
        for thing in odd_values() + [TURN, {TURN: TURN}, {TURN}, "turn", Script([TURN]), [list(TURN)], [[TURN]], [TURN, None]]:
            if thing not in ([], ()):
                with self.subTest(thing=repr(thing)[:60]):
                    self.assertEqual(self.assert_raises(Wrong, Script, thing).place, 0)
        for thing in [("turn", ("book", LAST)), ("close", ("all", ("", "", ""))), ("call", H), ("call", H, "M")]:
            self.assertEqual(self.assert_raises(Wrong, Script, [TURN, thing]).place, 0)
            self.assertEqual(self.assert_raises(Wrong, Script, (thing, TURN)).place, 0)

    def test_close_stands_last(self):
        self.assertEqual(Script([CLOSE]).steps(), [CLOSE])
        self.assertEqual(Script([TURN, CLOSE]).steps(), [TURN, CLOSE])
        for steps, index in [([CLOSE, TURN], 0), ([TURN, CLOSE, TURN], 1), ([CLOSE, CLOSE], 0), ([TURN, CLOSE, CLOSE, CLOSE], 1),
                             ([TURN, PART, CLOSE, CHAIN, CLOSE], 2), ((CLOSE, PART, CLOSE), 0)]:
            self.assertEqual(self.assert_raises(BadStep, Script, steps).index, index)

    def test_wrong_ahead_of_bad_step(self):
        self.assertEqual(self.assert_raises(Wrong, Script, [CLOSE, TURN, None]).place, 0)
        self.assertEqual(self.assert_raises(Wrong, Script, [CLOSE, ("turn",)]).place, 0)

    def test_many_steps(self):
        self.assertEqual(len(Script([TURN] * 1000)), 1000)
        self.assertEqual(self.assert_raises(BadStep, Script, [TURN] * 900 + [CLOSE, TURN]).index, 900)

    def test_steps_are_copied(self):
        steps = [TURN, PART]
        script = Script(steps)
        steps.append(CLOSE)
        steps[0] = CHAIN
        self.assertEqual(script.steps(), [TURN, PART])
        for ask in [script.steps, script.names, Script([CHAIN]).patterns, Script([CHAIN]).places]:
            told = ask()
            before = list(told)
            told[0] = "x"
            told.append("y")
            self.assertEqual(ask(), before)
        self.assertEqual(steps, [CHAIN, PART, CLOSE])

    def test_index(self):
        script = Script([TURN, PART, CLOSE])
        for index in NO_INDEX + [3, 4]:
            self.assert_no_step(index, lambda: script[index])

    def test_with_step(self):
        script = Script([TURN, PART, CLOSE])
        self.assertEqual(script.with_step(0, CHAIN).steps(), [CHAIN, PART, CLOSE])
        self.assertEqual(script.with_step(1, CHAIN).steps(), [TURN, CHAIN, CLOSE])
        self.assertEqual(script.with_step(2, CHAIN).steps(), [TURN, PART, CHAIN])
        self.assertEqual(script.with_step(2, ("close", H)).steps(), [TURN, PART, ("close", H)])
        self.assertEqual(script.steps(), [TURN, PART, CLOSE])
        self.assertEqual(self.assert_raises(BadStep, script.with_step, 0, CLOSE).index, 0)
        self.assertEqual(self.assert_raises(BadStep, script.with_step, 1, CLOSE).index, 1)
        for index in NO_INDEX + [3, 4]:
            self.assert_no_step(index, script.with_step, index, TURN)
            self.assert_no_step(index, script.with_step, index, None)
            self.assert_no_step(index, script.with_step, index, CLOSE)
        for thing in odd_values() + [H, list(TURN), [TURN], (TURN,), ("turn", ("book", LAST)), ("close", ("all", ("", "", "")))]:
            self.assertEqual(self.assert_raises(Wrong, script.with_step, 0, thing).place, 1)
            self.assertEqual(self.assert_raises(Wrong, script.with_step, 2, thing).place, 1)

    def test_without(self):
        script = Script([TURN, PART, CLOSE])
        self.assertEqual([script.without(index).steps() for index in range(3)], [[PART, CLOSE], [TURN, CLOSE], [TURN, PART]])
        self.assertEqual(Script([TURN]).without(0).steps(), [])
        self.assertEqual(len(script), 3)
        for index in NO_INDEX + [3, 4]:
            self.assert_no_step(index, script.without, index)

    def test_swapped(self):
        script = Script([TURN, PART, CALL, CLOSE])
        self.assertEqual(script.swapped(0).steps(), [PART, TURN, CALL, CLOSE])
        self.assertEqual(script.swapped(1).steps(), [TURN, CALL, PART, CLOSE])
        self.assertEqual(Script([TURN, PART]).swapped(0).steps(), [PART, TURN])
        self.assertEqual(self.assert_raises(BadStep, script.swapped, 2).index, 2)
        self.assertEqual(script.steps(), [TURN, PART, CALL, CLOSE])
        self.assertEqual(self.assert_raises(NoStep, script.swapped, 3).index, 4)
        self.assertEqual(self.assert_raises(NoStep, Script([TURN]).swapped, 0).index, 1)
        for index in NO_INDEX + [4, 5]:
            self.assert_no_step(index, script.swapped, index)

    def test_sum(self):
        one, other = Script([TURN, PART]), Script([CALL, CLOSE])
        self.assertEqual((one + other).steps(), [TURN, PART, CALL, CLOSE])
        self.assertEqual((one + one).steps(), [TURN, PART, TURN, PART])
        self.assertEqual((other + Script([])).steps(), [CALL, CLOSE])
        self.assertEqual((Script([]) + other).steps(), [CALL, CLOSE])
        self.assertEqual(self.assert_raises(BadStep, lambda: other + one).index, 1)
        self.assertEqual(self.assert_raises(BadStep, lambda: other + other).index, 1)
        self.assertEqual(self.assert_raises(BadStep, lambda: Script([CLOSE]) + one).index, 0)
        self.assertEqual([one.steps(), other.steps()], [[TURN, PART], [CALL, CLOSE]])
        self.assertIsInstance(one + other, Script)

    def test_names(self):
        script = Script([("turn", ("name", "z")), ("copy", ("book", ("name", "b")), "q"), ("chain", ("name", "c"), ("name", "z"), "p"),
                         ("call", LAST, "o"), ("drop", ("at", 0)), ("part", ("like", ("", "n", ""))), ("close", ("name", "a"))])
        self.assertEqual(script.names(), ["a", "b", "c", "z"])
        self.assertEqual(Script([CALL, ("copy", LAST, "m")]).names(), [])

    def test_patterns(self):
        script = Script([("turn", ("like", ("lt", "", ""))), ("copy", ("book", ("all", ("eq", "a", ""))), "q"),
                         ("chain", ("like", ("", "b", "")), ("like", ("lt", "", "")), "p"), ("drop", ("all", ("", "", ""))),
                         ("copy", ("book", ("like", ("gt", "", ""))), "q"), ("close", LAST)])
        self.assertEqual(script.patterns(), [("", "", ""), ("", "b", ""), ("eq", "a", ""), ("gt", "", ""), ("lt", "", "")])
        self.assertEqual(Script([TURN, CALL]).patterns(), [])

    def test_places(self):
        script = Script([("turn", ("at", 4)), TURN, ("chain", ("at", 0), ("at", 1), "p"), ("chain", LAST, ("at", 0), "p"),
                         ("copy", ("book", ("at", 2)), "q"), ("chain", ("at", 3), H, "p"), ("close", ("at", 0))])
        self.assertEqual(script.places(), [(0, 0), (2, 0), (2, 1), (3, 1), (4, 0), (5, 0), (6, 0)])
        self.assertEqual(Script([TURN, PART, CALL]).places(), [])

    def test_equality(self):
        script = Script([TURN, PART])
        self.assertIs(script == Script([TURN, PART]), True)
        self.assertIs(script != Script([TURN, PART]), False)
        others = [Script([PART, TURN]), Script([TURN]), Script([]), Script([TURN, PART, CALL]), Script([TURN, ("part", H)])]
        for other in others + [[TURN, PART], (TURN, PART), None, 2, True, TURN, "turn"]:
            self.assertIs(script == other, False)
            self.assertIs(other == script, False)
            self.assertIs(script != other, True)
