import unittest

from scriptpicks.licences import Licence
from scriptpicks.notation import (
    show_atom, show_edit, show_edits, show_licence, show_pattern, show_pick, show_row, show_script, show_start, show_step)
from scriptpicks.scripts import Script
from scriptpicks.starts import Start
from tests.test_runs import SCRIPT, START

ATOM, TWO = ("eq", "a", "b"), (("lt", "b", "c"), ("gt", "c", "d"))

TEXTS = {
    show_atom: [(ATOM, "a = b"), (TWO[0], "b < c"), (TWO[1], "c > d"), (("eq", "last", "like"), "last = like"), (("gt", "abcdefgh", "a"), "abcdefgh > a")],
    show_pattern: [(ATOM, "a = b"), (("", "", ""), "? ~ ?"), (("", "a", ""), "a ~ ?"), (("", "", "b"), "? ~ b"), (("lt", "", ""), "? < ?"),
                   (("gt", "a", ""), "a > ?"), (("eq", "", "b"), "? = b"), (("", "a", "b"), "a ~ b")],
    show_row: [(("h", (ATOM,)), "h: a = b"), (("h", TWO), "h: b < c & c > d"), (("goal", (ATOM, ATOM)), "goal: a = b & a = b")],
    show_pick: [(("name", "h"), "name h"), (("at", 0), "at 0"), (("at", 999999999), "at 999999999"), (("last",), "last"),
                (("like", ATOM), "like a = b"), (("all", ("", "", "")), "all ? ~ ?"), (("book", ("name", "book")), "book name book"),
                (("book", ("at", 3)), "book at 3"), (("book", ("last",)), "book last"), (("book", ("like", ("", "a", ""))), "book like a ~ ?"),
                (("book", ("all", ("lt", "", ""))), "book all ? < ?"), (("name", "last"), "name last")],
    show_step: [(("turn", ("last",)), "turn last"), (("part", ("all", ("", "", ""))), "part all ? ~ ?"), (("drop", ("at", 12)), "drop at 12"),
                (("call", ("name", "as"), "as"), "call name as as as"), (("copy", ("last",), "m"), "copy last as m"),
                (("copy", ("book", ("all", ATOM)), "copy"), "copy book all a = b as copy"),
                (("chain", ("at", 0), ("like", ("lt", "b", "")), "t"), "chain at 0 with like b < ? as t"),
                (("chain", ("name", "with"), ("name", "with"), "with"), "chain name with with name with as with"), (("close", ("last",)), "close last")],
    show_edit: [(("put", "goal", 0, ("h", (ATOM,))), "put goal 0 h: a = b"), (("put", "book", 10, ("h", TWO)), "put book 10 h: b < c & c > d"),
                (("out", "book", 3), "out book 3"), (("call", "goal", 1, "at"), "call goal 1 at"), (("turn", "goal", 2), "turn goal 2"),
                (("part", "book", 0), "part book 0"), (("more", "goal", 4, ATOM, 0), "more goal 4 0 a = b"),
                (("more", "book", 999999999, TWO[1], 1), "more book 999999999 1 c > d")],
    show_start: [(Start([], [], ATOM), "aim a = b\n"), (START, "goal h: a = b\ngoal k: b < c & c = d\ngoal h: e > d\nbook trans: d < e\n"
                                                               "book pair: e = f & f < g\naim a < c\n"),
                 (Start([("aim", (ATOM,))], [("goal", TWO)], TWO[1]), "goal aim: a = b\nbook goal: b < c & c > d\naim c > d\n"),
                 (Start([], [("h", (ATOM,))], ATOM), "book h: a = b\naim a = b\n")],
    show_script: [(Script([]), ""), (SCRIPT, "part name k\nchain at 0 with like b < ? as t\nclose last\n")],
    show_edits: [([], ""), ([("out", "goal", 1)], "out goal 1\n"), ([("call", "goal", 1, "m"), ("out", "goal", 1)], "call goal 1 m\nout goal 1\n")],
    show_licence: [(Licence(), "goal none\nbook none\n"), (Licence(goal="any", book="front"), "goal any\nbook front\n"),
                   (Licence(book="back", names=["k", "h", "k"]), "goal none\nbook back\nbar name h\nbar name k\n"),
                   (Licence(patterns=[("lt", "", ""), ("", "a", ""), ("", "", ""), ("eq", "name", "a")]),
                    "goal none\nbook none\nbar ? ~ ?\nbar a ~ ?\nbar name = a\nbar ? < ?\n"),
                   (Licence(turn=[("goal", 10), ("goal", 2), ("book", 3)], out=[("goal", 0)], part=[("book", 1)], more=[("book", 0)], call=[("goal", 7)]),
                    "goal none\nbook none\ncall goal 7\nmore book 0\nout goal 0\npart book 1\nturn book 3\nturn goal 2\nturn goal 10\n"),
                   (Licence(goal="back", names=["z"], patterns=[("eq", "", "")], turn=[("goal", 1)]),
                    "goal back\nbook none\nbar name z\nbar ? = ?\nturn goal 1\n")],
}


class NotationTest(unittest.TestCase):
    def test_the_texts(self):
        for show, told in TEXTS.items():
            for thing, text in told:
                with self.subTest(show=show.__name__, text=text):
                    self.assertEqual(show(thing), text)

    def test_lists_and_tuples(self):
        self.assertEqual(show_edits((("out", "goal", 1),)), "out goal 1\n")
        edits = [("out", "goal", 1)]
        show_edits(edits)
        self.assertEqual(edits, [("out", "goal", 1)])
