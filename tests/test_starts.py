import unittest

from scriptpicks.errors import NoRow, Wrong
from scriptpicks.starts import Start
from tests.values import deep_list, deep_tuple, odd_values

AIM = ("lt", "a", "c")
ONE = ("h", (("eq", "a", "b"),))
TWO = ("k", (("lt", "b", "c"), ("eq", "c", "d")))
THREE = ("h", (("gt", "e", "d"),))
LAW = ("trans", (("lt", "d", "e"),))
NEW = ("n", (("eq", "x", "y"),))
NO_INDEX = [-1, True, False, None, "0", "", [0], (0,), {}, {0}, 10 ** 59, -10 ** 59, deep_list(20), b"a", object()]


def a_start():
    return Start([ONE, TWO, THREE], [LAW], AIM)


class StartTest(unittest.TestCase):
    def assert_no_row(self, at, function, *arguments):
        with self.assertRaises(NoRow) as caught:
            function(*arguments)
        self.assertIs(caught.exception.at, at)

    def assert_wrong(self, place, function, *arguments):
        with self.assertRaises(Wrong) as caught:
            function(*arguments)
        self.assertEqual(caught.exception.place, place)

    def test_lists(self):
        start = a_start()
        self.assertEqual(start.goal(), [ONE, TWO, THREE])
        self.assertEqual(start.book(), [LAW])
        self.assertEqual(start.rows("goal"), [ONE, TWO, THREE])
        self.assertEqual(start.rows("book"), [LAW])
        self.assertEqual(start.aim, AIM)
        self.assertEqual(len(start), 4)

    def test_tuples_of_rows(self):
        start = Start((ONE, TWO, THREE), (LAW,), AIM)
        self.assertEqual(start.goal(), [ONE, TWO, THREE])
        self.assertIs(type(start.goal()), list)
        self.assertIs(type(start.book()), list)
        self.assertIs(type(start.rows("book")), list)
        self.assertIs(start == a_start(), True)

    def test_empty(self):
        start = Start([], (), AIM)
        self.assertEqual([start.goal(), start.book(), len(start), start.names()], [[], [], 0, []])
        self.assertEqual([start.things(), start.owners("goal"), start.owners("book")], [["a", "c"], [], []])
        self.assertIs(ONE in start, False)
        for home in ["goal", "book"]:
            self.assert_no_row(0, start.row, home, 0)
            self.assert_no_row(0, start.without_row, home, 0)
            self.assertEqual(start.with_row(home, 0, ONE).rows(home), [ONE])

    def test_wrong_arguments(self):
        for thing in odd_values() + ["", "hk", ONE, {ONE: ONE}, {ONE}, [ONE, None], (ONE, []), [[ONE]], [list(ONE)], 3]:
            if thing in ([], ()):
                continue
            with self.subTest(thing=repr(thing)[:60]):
                self.assert_wrong(0, Start, thing, [LAW], AIM)
                self.assert_wrong(1, Start, [ONE], thing, AIM)
                self.assert_wrong(2, Start, [ONE], [LAW], thing)
        for thing in [("", "a", "b"), ("eq", "", "b"), list(AIM), (AIM,), [AIM], (), []]:
            self.assert_wrong(2, Start, [ONE], [LAW], thing)
        self.assert_wrong(0, Start, [ONE, ("h", ())], [LAW], AIM)
        self.assert_wrong(1, Start, [ONE], [LAW, ("h", (AIM, AIM, AIM))], AIM)

    def test_the_first_wrong_argument_is_told(self):
        self.assert_wrong(0, Start, None, None, None)
        self.assert_wrong(0, Start, None, [], AIM)
        self.assert_wrong(0, Start, [None], [LAW], None)
        self.assert_wrong(1, Start, [], None, None)
        self.assert_wrong(2, Start, [], [], None)

    def test_many_rows(self):
        start = Start([ONE] * 600, [TWO] * 400, AIM)
        self.assertEqual(len(start), 1000)
        self.assertEqual(start.owners("goal")[599], (("goal", 599, 0),))
        self.assert_wrong(0, Start, [ONE] * 600 + [None], [], AIM)

    def test_arguments_are_copied(self):
        goal, book = [ONE, TWO], [LAW]
        start = Start(goal, book, AIM)
        goal.append(THREE)
        book.clear()
        self.assertEqual([start.goal(), start.book(), len(start)], [[ONE, TWO], [LAW], 3])
        goal[:] = [ONE]
        Start(goal, [], AIM).with_row("goal", 0, TWO)
        self.assertEqual(goal, [ONE])

    def test_told_lists_are_new(self):
        start = a_start()
        asked = [start.goal, start.book, lambda: start.rows("goal"), lambda: start.rows("book"), start.names, start.things,
                 lambda: start.owners("goal"), lambda: start.owners("book")]
        for ask in asked:
            told = ask()
            before = list(told)
            told.append("x")
            told[0] = "y"
            self.assertEqual(ask(), before)
            self.assertIsNot(ask(), ask())
        self.assertIs(start == a_start(), True)

    def test_row(self):
        start = a_start()
        self.assertEqual([start.row("goal", at) for at in range(3)], [ONE, TWO, THREE])
        self.assertEqual(start.row("book", 0), LAW)
        for at in NO_INDEX + [3, 4]:
            self.assert_no_row(at, start.row, "goal", at)
        for at in NO_INDEX + [1, 2, 3]:
            self.assert_no_row(at, start.row, "book", at)

    def test_with_row(self):
        start = a_start()
        self.assertEqual(start.with_row("goal", 0, NEW).goal(), [NEW, ONE, TWO, THREE])
        self.assertEqual(start.with_row("goal", 2, NEW).goal(), [ONE, TWO, NEW, THREE])
        self.assertEqual(start.with_row("goal", 3, NEW).goal(), [ONE, TWO, THREE, NEW])
        self.assertEqual(start.with_row("book", 0, NEW).book(), [NEW, LAW])
        self.assertEqual(start.with_row("book", 1, ONE).book(), [LAW, ONE])
        self.assertEqual(start.with_row("book", 1, NEW).goal(), [ONE, TWO, THREE])
        self.assertEqual(start.with_row("goal", 1, NEW).book(), [LAW])
        self.assertEqual(start.with_row("goal", 1, NEW).aim, AIM)
        self.assertIs(start == a_start(), True)

    def test_with_row_errors(self):
        start = a_start()
        for at in NO_INDEX + [4, 5]:
            self.assert_no_row(at, start.with_row, "goal", at, NEW)
            self.assert_no_row(at, start.with_row, "goal", at, None)
        for at in NO_INDEX + [2]:
            self.assert_no_row(at, start.with_row, "book", at, NEW)
        for thing in odd_values() + [list(NEW), [NEW], (NEW,), ("n", ()), ("N", NEW[1]), ("n", list(NEW[1])), AIM]:
            self.assert_wrong(2, start.with_row, "goal", 3, thing)
            self.assert_wrong(2, start.with_row, "book", 0, thing)
        self.assertIs(start == a_start(), True)

    def test_without_row(self):
        start = a_start()
        self.assertEqual(start.without_row("goal", 0).goal(), [TWO, THREE])
        self.assertEqual(start.without_row("goal", 1).goal(), [ONE, THREE])
        self.assertEqual(start.without_row("goal", 2).goal(), [ONE, TWO])
        self.assertEqual(start.without_row("goal", 1).book(), [LAW])
        self.assertEqual(start.without_row("book", 0).book(), [])
        self.assertEqual(start.without_row("book", 0).goal(), [ONE, TWO, THREE])
        self.assertEqual(start.without_row("book", 0).aim, AIM)
        for at in NO_INDEX + [3, 4]:
            self.assert_no_row(at, start.without_row, "goal", at)
        for at in NO_INDEX + [1, 3]:
            self.assert_no_row(at, start.without_row, "book", at)
        self.assertIs(start == a_start(), True)

    def test_with_aim(self):
        start = a_start()
        other = start.with_aim(("eq", "x", "x"))
        self.assertEqual([other.aim, other.goal(), other.book()], [("eq", "x", "x"), start.goal(), start.book()])
        self.assertEqual(start.aim, AIM)
        for thing in odd_values() + [list(AIM), (AIM,), ("", "a", "b"), ("lt", "a", ""), ("le", "a", "b"), ONE]:
            self.assert_wrong(0, start.with_aim, thing)

    def test_in(self):
        start = a_start()
        for row in [ONE, TWO, THREE, LAW, ("k", (("lt", "b", "c"), ("eq", "c", "d")))]:
            self.assertIs(row in start, True)
            self.assertIs(row not in start, False)
        no_rows = [NEW, list(ONE), [ONE], (ONE,), ("h", TWO[1]), ("k", ONE[1]), "h", ONE[1], AIM, ("goal", 0, 0), 0, 3,
                   ("k", TWO[1][::-1]), ("k", TWO[1][:1]), ("h", [("eq", "a", "b")]), start, deep_tuple(20)]
        for thing in no_rows + odd_values():
            self.assertIs(thing in start, False)

    def test_names(self):
        self.assertEqual(a_start().names(), ["h", "k", "trans"])
        start = Start([("z", ONE[1]), ("b", ONE[1]), ("z", TWO[1])], [("b", ONE[1]), ("a", ONE[1])], AIM)
        self.assertEqual(start.names(), ["a", "b", "z"])

    def test_things(self):
        self.assertEqual(a_start().things(), ["a", "b", "c", "d", "e"])
        start = Start([("z", (("eq", "q", "p"), ("lt", "n", "m")))], [("y", (("gt", "zz", "p"),))], ("eq", "r", "o"))
        self.assertEqual(start.things(), ["m", "n", "o", "p", "q", "r", "zz"])
        self.assertEqual(Start([], [], ("lt", "b", "a")).things(), ["a", "b"])
        self.assertEqual(Start([], [], ("lt", "b", "b")).things(), ["b"])

    def test_owners(self):
        start = Start([ONE, TWO, THREE], [TWO, LAW], AIM)
        self.assertEqual(start.owners("goal"), [
            (("goal", 0, 0),), (("goal", 1, 0), ("goal", 1, 1)), (("goal", 2, 0),)])
        self.assertEqual(start.owners("book"), [(("book", 0, 0), ("book", 0, 1)), (("book", 1, 0),)])

    def test_equality(self):
        start = a_start()
        self.assertIs(start == a_start(), True)
        self.assertIs(start != a_start(), False)
        others = [
            Start([ONE, THREE, TWO], [LAW], AIM), Start([ONE, TWO], [LAW], AIM), Start([ONE, TWO, THREE, LAW], [], AIM),
            Start([ONE, TWO, THREE], [], AIM), Start([ONE, TWO, THREE], [LAW, LAW], AIM), start.with_aim(("lt", "a", "b")),
            Start([ONE, TWO, THREE], [NEW], AIM), Start([LAW], [ONE, TWO, THREE], AIM), Start([], [], AIM),
        ]
        for other in others + [None, [ONE, TWO, THREE], ([ONE, TWO, THREE], [LAW], AIM), 4, AIM, True, "start"]:
            self.assertIs(start == other, False)
            self.assertIs(other == start, False)
            self.assertIs(start != other, True)

    def test_no_call_changes_it(self):
        start = a_start()
        first = [start.goal(), start.book(), start.aim, start.names(), start.things(), start.owners("goal"), len(start)]
        start.with_row("goal", 0, NEW)
        start.without_row("book", 0)
        start.with_aim(("eq", "q", "q"))
        start.row("goal", 1)
        again = [start.goal(), start.book(), start.aim, start.names(), start.things(), start.owners("goal"), len(start)]
        self.assertEqual(first, again)
