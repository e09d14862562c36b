import unittest

from scriptpicks.errors import NotPicked, Stuck, Wrong
from scriptpicks.steps import done, is_step, picks_of, with_pick
from tests.values import deep_pick, odd_values

H, K, LAST, AT = ("name", "h"), ("name", "k"), ("last",), ("at", 0)
LIKE, ALL = ("like", ("eq", "", "")), ("all", ("", "", ""))
BOOK, BOOK_ALL = ("book", ("last",)), ("book", ("all", ("eq", "", "")))
SINGLE = [H, LAST, AT, LIKE]
GOAL = [("h", (("eq", "a", "b"),)), ("k", (("lt", "b", "c"), ("eq", "c", "d"))), ("h", (("gt", "e", "d"),))]
LAWS = [("trans", (("lt", "d", "e"),)), ("refl", (("eq", "a", "a"), ("gt", "x", "y")))]
AIM = ("lt", "a", "c")


class IsStepTest(unittest.TestCase):
    def check(self, expected, things):
        for thing in things:
            with self.subTest(thing=repr(thing)[:60]):
                self.assertIs(is_step(thing), expected)

    def test_steps(self):
        for pick in SINGLE + [ALL]:
            self.check(True, [("turn", pick), ("part", pick), ("drop", pick), ("call", pick, "m"), ("copy", pick, "m")])
            self.check(True, [("copy", ("book", pick), "abcdefgh")])
        for pick in SINGLE:
            self.check(True, [("close", pick), ("chain", pick, LAST, "m"), ("chain", AT, pick, "m")])

    def test_picks_in_the_book(self):
        for pick in [BOOK, BOOK_ALL]:
            self.check(False, [("turn", pick), ("part", pick), ("drop", pick), ("call", pick, "m"), ("close", pick)])
            self.check(False, [("chain", pick, H, "m"), ("chain", H, pick, "m"), ("chain", pick, pick, "m")])
            self.check(True, [("copy", pick, "m")])

    def test_picks_that_are_not_single(self):
        self.check(False, [("close", ALL), ("chain", ALL, H, "m"), ("chain", H, ALL, "m"), ("chain", ALL, ALL, "m")])

    def test_names(self):
        for name in ["", "M", "abcdefghi", "m ", None, 1, True, ["m"], ("m",), H, b"m"]:
            self.check(False, [("call", H, name), ("copy", H, name), ("copy", BOOK, name), ("chain", H, K, name)])

    def test_one_thing_otherwise(self):
        for kind in ["turn", "part", "drop", "close"]:
            self.check(False, [(kind,), (kind, H, H), (kind, H, "m"), [kind, H], (kind, [H]), (kind, "h"), (kind, list(H))])
            self.check(False, [(kind, None), (kind, ("name", "H")), (kind, ("at", -1)), (kind, ("at", True)), (kind, ())])
            self.check(False, [(kind, ("like", ("", ""))), (kind, ("book", BOOK)), (H, kind), (kind + "s", H)])
        for kind in ["call", "copy"]:
            self.check(False, [(kind,), (kind, H), (kind, H, "m", "m"), (kind, "m", H), [kind, H, "m"], (kind, list(H), "m")])
            self.check(False, [(kind, H, H, "m"), (kind, None, "m"), (kind, ("at", True), "m"), (kind, "m"), (kind, "h", "m")])
        self.check(False, [("chain",), ("chain", H), ("chain", H, K), ("chain", H, "m"), ("chain", H, K, "m", "m")])
        self.check(False, [("chain", H, K, H, "m"), ["chain", H, K, "m"], ("chain", "m", H, K), ("chain", None, K, "m")])
        self.check(False, [("chain", H, None, "m"), ("chain", H, K, K), ("chain", [H], K, "m"), ("chain", H, [K], "m")])
        self.check(False, [("", H), ("TURN", H), (None, H), (["turn"], H), ({}, H), (b"turn", H), ("turn" + "\n", H), (H,)])
        self.check(False, [(), H, LAST, "turn", [], {"turn": H}, ("copy", ("book", BOOK), "m"), ("turn", deep_pick(18))])
        self.check(False, [("put", H), ("out", H), ("name", "h"), ("turn", ("turn", H))])

    def test_odd_values(self):
        self.check(False, odd_values())
        for thing in odd_values():
            self.check(False, [("turn", thing), ("call", thing, "m"), ("call", H, thing), ("chain", H, thing, "m")])


class PicksOfTest(unittest.TestCase):
    def test_one_pick(self):
        for step in [("turn", H), ("part", H), ("drop", H), ("call", H, "m"), ("copy", H, "m"), ("close", H)]:
            self.assertEqual(picks_of(step), [H])
        self.assertEqual(picks_of(("copy", BOOK_ALL, "m")), [BOOK_ALL])

    def test_two_picks(self):
        self.assertEqual(picks_of(("chain", H, K, "m")), [H, K])
        self.assertEqual(picks_of(("chain", K, K, "m")), [K, K])

    def test_new_each_time(self):
        step = ("chain", H, K, "m")
        picks_of(step).clear()
        self.assertEqual(picks_of(step), [H, K])
        self.assertIs(type(picks_of(step)), list)


class WithPickTest(unittest.TestCase):
    def test_others(self):
        self.assertEqual(with_pick(("turn", H), 0, ALL), ("turn", ALL))
        self.assertEqual(with_pick(("close", H), 0, AT), ("close", AT))
        self.assertEqual(with_pick(("call", H, "m"), 0, K), ("call", K, "m"))
        self.assertEqual(with_pick(("copy", H, "m"), 0, BOOK_ALL), ("copy", BOOK_ALL, "m"))
        self.assertEqual(with_pick(("chain", H, K, "m"), 0, LAST), ("chain", LAST, K, "m"))
        self.assertEqual(with_pick(("chain", H, K, "m"), 1, LAST), ("chain", H, LAST, "m"))
        self.assertEqual(with_pick(("chain", H, K, "m"), 1, K), ("chain", H, K, "m"))

    def test_no_step(self):
        table = [(("turn", H), 0, BOOK), (("part", H), 0, BOOK_ALL), (("drop", H), 0, BOOK), (("call", H, "m"), 0, BOOK),
                 (("close", H), 0, ALL), (("close", H), 0, BOOK), (("chain", H, K, "m"), 0, ALL),
                 (("chain", H, K, "m"), 1, ALL), (("chain", H, K, "m"), 0, BOOK), (("chain", H, K, "m"), 1, BOOK)]
        for step, number, pick in table:
            with self.subTest(step=step, pick=pick), self.assertRaises(Wrong) as caught:
                with_pick(step, number, pick)
            self.assertEqual(caught.exception.place, 2)


class DoneTest(unittest.TestCase):
    def check(self, step, goal, picked, of=GOAL, aim=AIM):
        rows, laws = list(of), list(LAWS)
        result = done(rows, laws, step, aim)
        self.assertIs(type(result), tuple)
        self.assertEqual(result, (goal, picked))
        self.assertIsNot(result[0], rows)
        self.assertEqual([rows, laws], [list(of), LAWS])

    def check_error(self, error, step, of=GOAL, aim=AIM, book=LAWS):
        rows = list(of)
        with self.assertRaises(error) as caught:
            done(rows, list(book), step, aim)
        self.assertEqual(rows, list(of))
        self.assertIs(type(caught.exception), error)
        return caught.exception

    def test_turn(self):
        one, two, three = GOAL
        self.check(("turn", K), [one, ("k", (("gt", "c", "b"), ("eq", "d", "c"))), three], [[1]])
        self.check(("turn", H), [one, two, ("h", (("lt", "d", "e"),))], [[2]])
        self.check(("turn", ("all", ("eq", "", ""))), [
            ("h", (("eq", "b", "a"),)), ("k", (("gt", "c", "b"), ("eq", "d", "c"))), three], [[0, 1]])

    def test_part(self):
        one, two, three = GOAL
        halves = [("k", (("lt", "b", "c"),)), ("k", (("eq", "c", "d"),))]
        self.check(("part", K), [one] + halves + [three], [[1]])
        self.check(("part", AT), GOAL, [[0]])
        self.check(("part", ALL), [one] + halves + [three], [[0, 1, 2]])
        self.check(("part", ALL), halves + halves, [[0, 1]], [two, two])

    def test_drop(self):
        one, two, three = GOAL
        self.check(("drop", H), [one, two], [[2]])
        self.check(("drop", AT), [two, three], [[0]])
        self.check(("drop", ("all", ("", "", "d"))), [one], [[1, 2]])
        self.check(("drop", ALL), [], [[0, 1, 2]])

    def test_call(self):
        one, two, three = GOAL
        self.check(("call", H, "m"), [one, two, ("m", three[1])], [[2]])
        self.check(("call", K, "h"), [one, ("h", two[1]), three], [[1]])
        self.check(("call", ALL, "k"), [("k", one[1]), two, ("k", three[1])], [[0, 1, 2]])

    def test_copy(self):
        one, two, three = GOAL
        self.check(("copy", AT, "m"), GOAL + [("m", one[1])], [[0]])
        self.check(("copy", K, "k"), GOAL + [two], [[1]])
        self.check(("copy", ("all", ("eq", "", "")), "m"), GOAL + [("m", one[1]), ("m", two[1])], [[0, 1]])
        self.check(("copy", BOOK, "m"), GOAL + [("m", LAWS[1][1])], [[1]])
        self.check(("copy", ("book", ALL), "m"), GOAL + [("m", LAWS[0][1]), ("m", LAWS[1][1])], [[0, 1]])
        self.check(("copy", ("book", ("name", "trans")), "m"), [("m", LAWS[0][1])], [[0]], [])

    def test_chain(self):
        rows = [("x", (("eq", "a", "b"),)), ("y", (("lt", "b", "c"),)), ("z", (("gt", "c", "d"),)), ("w", (("eq", "d", "d"),))]
        x, y, z, w = [("name", row[0]) for row in rows]
        self.check(("chain", x, y, "m"), rows + [("m", (("lt", "a", "c"),))], [[0], [1]], rows)
        self.check(("chain", z, w, "x"), rows + [("x", (("gt", "c", "d"),))], [[2], [3]], rows)
        self.check(("chain", w, LAST, "m"), rows + [("m", (("eq", "d", "d"),))], [[3], [3]], rows)
        for step in [("chain", y, x, "m"), ("chain", y, z, "m"), ("chain", x, z, "m"), ("chain", x, x, "m")]:
            self.check_error(Stuck, step, rows)

    def test_chain_of_rows_with_two_atoms(self):
        rows = [("x", (("eq", "a", "b"),)), ("y", (("lt", "b", "c"), ("lt", "b", "c"))), ("z", (("eq", "c", "d"),))]
        x, y, z = [("name", row[0]) for row in rows]
        self.check_error(Stuck, ("chain", x, y, "m"), rows)
        self.check_error(Stuck, ("chain", y, z, "m"), rows)

    def test_close(self):
        rows = [("x", (AIM,)), ("y", (("eq", "a", "b"), AIM)), ("z", (AIM, ("eq", "a", "b"))), ("w", (("gt", "c", "a"),))]
        for at in range(3):
            self.check(("close", ("at", at)), rows, [[at]], rows)
        self.check_error(Stuck, ("close", LAST), rows)
        self.check(("close", LAST), rows, [[3]], rows, ("gt", "c", "a"))
        self.check_error(Stuck, ("close", AT), rows, ("lt", "a", "b"))

    def test_all_that_picks_nothing(self):
        none = ("all", ("", "q", ""))
        for step in [("turn", none), ("part", none), ("drop", none), ("call", none, "m"), ("copy", none, "m")]:
            self.check(step, GOAL, [[]])
            self.check(step, [], [[]], [])
        self.check(("copy", ("book", none), "m"), GOAL, [[]])

    def test_not_picked(self):
        none = ("name", "q")
        steps = [("turn", none), ("part", none), ("drop", none), ("call", none, "m"), ("copy", none, "m"), ("close", none),
                 ("turn", ("at", 3)), ("turn", ("like", ("", "q", ""))), ("copy", ("book", H), "m"),
                 ("copy", ("book", ("at", 2)), "m"), ("chain", none, H, "m"), ("chain", none, none, "m")]
        for step in steps:
            with self.subTest(step=step):
                self.assertEqual(self.check_error(NotPicked, step).number, 0)
        self.assertEqual(self.check_error(NotPicked, ("chain", H, none, "m")).number, 1)
        self.assertEqual(self.check_error(NotPicked, ("turn", LAST), []).number, 0)
        self.assertEqual(self.check_error(NotPicked, ("copy", BOOK, "m"), book=[]).number, 0)

    def test_not_picked_ahead_of_stuck(self):
        none = ("name", "q")
        self.assertEqual(self.check_error(NotPicked, ("chain", K, none, "m")).number, 1)
        self.assertEqual(self.check_error(NotPicked, ("chain", none, K, "m")).number, 0)

    def test_lists_are_new(self):
        rows = [("w", (("eq", "d", "d"),))]
        goal, picked = done(rows, [], ("chain", AT, LAST, "m"), AIM)
        self.assertIsNot(picked[0], picked[1])
        goal.clear()
        self.assertEqual(rows, [("w", (("eq", "d", "d"),))])
        for step in [("close", AT), ("part", AT), ("drop", ("all", ("", "q", "")))]:
            goal = done(rows, [], step, ("eq", "d", "d"))[0]
            goal.append("x")
            self.assertEqual(rows, [("w", (("eq", "d", "d"),))])
