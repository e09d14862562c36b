import copy
import random
import unittest

from scriptpicks.errors import BadEdit, Nothing, PickError
from scriptpicks.edits import Draft, edited, elements_in, is_edit
from scriptpicks.starts import Start
from tests.models import Model, possible_edits, random_edits
from tests.test_runs import LAW, ONE, PAIR, START, THREE, TWO
from tests.values import check_kind, odd_values

ATOM, OTHER = ("lt", "x", "y"), ("eq", "y", "z")
NEW, WIDE = ("n", (ATOM,)), ("w", (ATOM, OTHER))
EDITS = [("put", "goal", 0, NEW), ("put", "book", 10 ** 59, WIDE), ("out", "goal", 3), ("out", "book", 0),
         ("call", "goal", 1, "abcdefgh"), ("turn", "book", 2), ("part", "goal", 0), ("more", "goal", 1, ATOM, 0),
         ("more", "book", 0, ("eq", "a", "a"), 1)]
NO_EDITS = [
    ("put", "goal", 0), ("put", "goal", 0, ATOM), ("put", "goal", 0, list(NEW)), ("put", "goal", 0, NEW, NEW),
    ("put", "goal", 0, ("n", ())), ("put", "home", 0, NEW), ("put", "goal", -1, NEW), ("put", "goal", True, NEW),
    ("put", None, 0, NEW), ("put", "goal", None, NEW), ("out", "goal"), ("out", "goal", -1), ("out", "goal", False),
    ("out", "goal", 0, 0), ("out", ["goal"], 0), ("out", "goal", "0"), ("out", "goal", (0,)), ["out", "goal", 0],
    ("call", "goal", 0), ("call", "goal", 0, ""), ("call", "goal", 0, "Abc"), ("call", "goal", 0, None),
    ("call", "goal", 0, "m", "m"), ("call", "goal", -1, "m"), ("turn", "goal", 0, "m"), ("turn", "", 0), ("turn", "goal", -2),
    ("part", "goal", 0, 1), ("part", "goal", {}), ("part", "goal", True), ("part", 0, "goal"),
    ("more", "goal", 0, ATOM), ("more", "goal", 0, ATOM, 2), ("more", "goal", 0, ATOM, -1), ("more", "goal", 0, ATOM, True),
    ("more", "goal", 0, ATOM, False), ("more", "goal", 0, (ATOM,), 0), ("more", "goal", 0, ("", "x", "y"), 0),
    ("more", "goal", 0, ATOM, "0"), ("more", "goal", 0, ATOM, None), ("more", "goal", 0, ATOM, 0, 0), ("more", "goal", -1, ATOM, 0),
    ("drop", "goal", 0), ("close", "goal", 0), ("", "goal", 0), (None, "goal", 0), (["out"], "goal", 0), ({}, "goal", 0),
]


class EditsTest(unittest.TestCase):
    def assert_bad(self, draft, edit):
        """Check that an edit cannot be done, and that the draft stays as it is."""
        before = [draft.rows("goal"), draft.rows("book"), draft.edits(), len(draft), draft.start()]
        for act in [lambda: draft.do(edit), lambda: edited(draft.first(), draft.edits() + [edit, None])]:
            with self.assertRaises(PickError) as caught:
                act()
            self.assertIs(type(caught.exception), BadEdit)
            self.assertEqual(vars(caught.exception), {"index": len(draft)})
        self.assertEqual([draft.rows("goal"), draft.rows("book"), draft.edits(), len(draft), draft.start()], before)

    def test_is_edit(self):
        check_kind(self, is_edit, EDITS, NO_EDITS + odd_values())

    def test_at_first(self):
        draft = Draft(START)
        self.assertEqual(draft.rows("goal"), [
            ONE + ((("goal", 0, 0),),), TWO + ((("goal", 1, 0), ("goal", 1, 1)),), THREE + ((("goal", 2, 0),),)])
        self.assertEqual(draft.rows("book"), [LAW + ((("book", 0, 0),),), PAIR + ((("book", 1, 0), ("book", 1, 1)),)])
        self.assertEqual([draft.edits(), len(draft), draft.start(), draft.first()], [[], 0, START, START])
        self.assertEqual(elements_in(draft, "goal"), [(0, 1), (1, 1), (2, 1)])
        with self.assertRaises(Nothing):
            draft.back()
        empty = edited(Start([], [], ATOM), [])
        self.assertEqual([empty.rows("goal"), empty.rows("book"), elements_in(empty, "book")], [[], [], []])

    def test_each_sort(self):
        roots = (("goal", 1, 0), ("goal", 1, 1))
        draft = Draft(START)
        self.assertIsNone(draft.do(("call", "goal", 1, "m")))
        self.assertEqual(draft.rows("goal")[1], ("m", TWO[1], roots))
        draft.do(("turn", "goal", 1))
        self.assertEqual(draft.rows("goal")[1], ("m", (("gt", "c", "b"), ("eq", "d", "c")), roots))
        draft.do(("part", "goal", 1))
        self.assertEqual(draft.rows("goal")[1:3], [
            ("m", (("gt", "c", "b"),), roots[:1]), ("m", (("eq", "d", "c"),), roots[1:])])
        draft.do(("out", "goal", 1))
        self.assertEqual(draft.rows("goal"), [
            ONE + ((("goal", 0, 0),),), ("m", (("eq", "d", "c"),), roots[1:]), THREE + ((("goal", 2, 0),),)])
        draft.do(("more", "goal", 0, ATOM, 0))
        self.assertEqual(draft.rows("goal")[0], ("h", (ATOM,) + ONE[1], (("new", 4, 0), ("goal", 0, 0))))
        draft.do(("more", "goal", 2, ATOM, 1))
        self.assertEqual(draft.rows("goal")[2], ("h", THREE[1] + (ATOM,), (("goal", 2, 0), ("new", 5, 0))))
        draft.do(("put", "goal", 3, WIDE))
        self.assertEqual(draft.rows("goal")[3], WIDE + ((("new", 6, 0), ("new", 6, 1)),))
        self.assertEqual(elements_in(draft, "goal"), [(0, 1), (1, 1), (2, 1), (("new", 6), 1)])
        self.assertEqual(draft.start(), Start([row[:2] for row in draft.rows("goal")], START.book(), START.aim))
        self.assertEqual([draft.first(), len(draft)], [START, 7])

    def test_the_ends_and_beyond(self):
        for home, many in [("goal", 3), ("book", 2)]:
            draft = Draft(START)
            for at in (many + 1, many + 7, 10 ** 59):
                self.assert_bad(draft, ("put", home, at, NEW))
            for edit in [("out", home), ("call", home), ("turn", home), ("part", home), ("more", home)]:
                rest = {"call": ("m",), "more": (ATOM, 0)}.get(edit[0], ())
                for at in (many, many + 1, 10 ** 59):
                    self.assert_bad(draft, edit + (at,) + rest)
            draft.do(("put", home, many, NEW))
            draft.do(("put", home, 0, WIDE))
            self.assertEqual([row[0] for row in draft.rows(home)], ["w"] + [name for name, _ in START.rows(home)] + ["n"])
            self.assert_bad(draft, ("turn", home, many + 1))
            draft.do(("turn", home, many))
        for thing in NO_EDITS + odd_values():
            self.assert_bad(draft, thing)

    def test_rows_that_were_put_in(self):
        draft = edited(START, [("put", "goal", 1, WIDE), ("put", "book", 0, NEW)])
        for home, at in [("goal", 1), ("book", 0)]:
            for edit in [("out",), ("call", "m"), ("turn",), ("part",), ("more", ATOM, 0), ("more", ATOM, 1)]:
                self.assert_bad(draft, edit[:1] + (home, at) + edit[1:])

    def test_parts_and_mores(self):
        draft = Draft(START)
        for edit in [("part", "goal", 0), ("part", "book", 0), ("more", "goal", 1, ATOM, 0), ("more", "book", 1, ATOM, 1)]:
            self.assert_bad(draft, edit)
        draft.do(("part", "book", 1))
        for at in (1, 2):
            self.assert_bad(draft, ("part", "book", at))
            self.assert_bad(draft, ("more", "book", at, ATOM, 0))
        draft.do(("out", "book", 1))
        self.assert_bad(draft, ("more", "book", 1, ATOM, 0))
        self.assert_bad(draft, ("part", "book", 1))
        draft.do(("call", "book", 1, "m"))
        draft.do(("turn", "book", 1))
        draft.do(("more", "goal", 0, ATOM, 0))
        self.assert_bad(draft, ("more", "goal", 0, OTHER, 1))
        self.assert_bad(draft, ("part", "goal", 0))
        draft.do(("turn", "goal", 0))
        self.assertEqual(draft.rows("goal")[0][1], (("gt", "y", "x"), ("eq", "b", "a")))
        draft.do(("call", "goal", 0, "m"))
        draft.do(("out", "goal", 0))
        self.assertEqual(len(draft.rows("goal")), 2)

    def test_a_row_between_parts(self):
        draft = edited(START, [("part", "goal", 1), ("put", "goal", 2, NEW)])
        self.assertEqual(elements_in(draft, "goal"), [(0, 1), (1, 2), (("new", 1), 1), (2, 1)])
        draft.do(("out", "goal", 1))
        self.assertEqual(elements_in(draft, "goal"), [(0, 1), (("new", 1), 1), (1, 1), (2, 1)])
        draft.do(("out", "goal", 2))
        self.assertEqual(elements_in(draft, "goal"), [(0, 1), (("new", 1), 1), (2, 1)])
        self.assertEqual(elements_in(draft, "book"), [(0, 1), (1, 1)])

    def test_in_place(self):
        draft = kept = Draft(START)
        draft += EDITS[0]
        self.assertIs(draft, kept)
        self.assertEqual(draft, edited(START, EDITS[:1]))
        with self.assertRaises(BadEdit) as caught:
            draft += ("out", "goal", 4)
        self.assertEqual(caught.exception.index, 1)
        self.assertIs(draft, kept)

    def test_edited_raises_for_the_first(self):
        for index in range(4):
            good = [("put", "goal", 0, NEW)] * index
            for bad in [None, ("out", "goal", 90), ("part", "book", 0), [1], ()]:
                with self.assertRaises(BadEdit) as caught:
                    edited(START, good + [bad] + good + [None])
                self.assertEqual(caught.exception.index, index)
        edits = [("out", "goal", 0), ("out", "goal", 0), ("out", "goal", 0)]
        self.assertEqual(edited(START, edits).rows("goal"), [])
        with self.assertRaises(BadEdit) as caught:
            edited(START, edits + edits)
        self.assertEqual(caught.exception.index, 3)

    def test_back(self):
        chance, atoms = random.Random(60), [ATOM, OTHER]
        for _ in range(60):
            edits, model = random_edits(START, chance, atoms, ["h", "m"], 12)
            draft = edited(START, edits)
            for many in range(len(edits), 0, -1):
                self.assertEqual(draft.back(), edits[many - 1])
                before = edited(START, edits[:many - 1])
                self.assertEqual(draft, before)
                self.assertEqual([draft.rows("goal"), draft.rows("book")], [before.rows("goal"), before.rows("book")])
            self.assertRaises(Nothing, draft.back)

    def test_roots_behind_back(self):
        draft = edited(START, [("turn", "goal", 0), ("put", "goal", 0, NEW)])
        draft.back()
        draft.back()
        draft.do(("put", "goal", 0, NEW))
        self.assertEqual(draft.rows("goal")[0][2], (("new", 0, 0),))

    def test_copied(self):
        draft = edited(START, [("part", "goal", 1), ("put", "book", 0, NEW)])
        other = draft.copied()
        self.assertIsInstance(other, Draft)
        self.assertEqual(other, draft)
        other.do(("out", "goal", 0))
        self.assertEqual([len(draft), len(draft.rows("goal")), len(other.rows("goal"))], [2, 4, 3])
        draft.back()
        self.assertEqual([len(other), other.back(), other.back()], [3, ("out", "goal", 0), ("put", "book", 0, NEW)])
        self.assertEqual(other, draft)

    def test_equality(self):
        self.assertTrue(Draft(START) == Draft(Start(START.goal(), START.book(), START.aim)))
        self.assertTrue(edited(START, [("turn", "goal", 0)]) == edited(START, [("turn", "goal", 0)]))
        self.assertFalse(edited(START, [("turn", "goal", 0)]) != edited(START, [("turn", "goal", 0)]))
        self.assertFalse(Draft(START) == edited(START, [("turn", "goal", 0)] * 2))
        self.assertFalse(Draft(START) == Draft(START.with_aim(ATOM)))
        self.assertFalse(edited(START, [("turn", "goal", 0)]) == Draft(edited(START, [("turn", "goal", 0)]).start()))
        for other in [None, START, [], 0]:
            self.assertFalse(Draft(START) == other)
            self.assertTrue(Draft(START) != other)

    def test_random_edits_against_the_model(self):
        chance, atoms, names = random.Random(61), [ATOM, OTHER, ("gt", "a", "b")], ["h", "k", "m"]
        could = {True: 0, False: 0}
        for _ in range(400):
            draft, model = Draft(START), Model(START)
            for _ in range(chance.randrange(14)):
                edit = chance.choice(possible_edits(model, chance, atoms, names))
                can = model.do(edit)
                could[can] += 1
                if can:
                    self.assertIsNone(draft.do(edit))
                else:
                    self.assert_bad(draft, edit)
                self.assertEqual([draft.rows("goal"), draft.rows("book")], [model.rows("goal"), model.rows("book")])
            for home in ("goal", "book"):
                told = [row.element for row in model.homes[home]]
                firsts = [element for at, element in enumerate(told) if element not in told[:at]]
                self.assertEqual(elements_in(draft, home), [(element, told.count(element)) for element in firsts])
        self.assertGreater(min(could.values()), 300)

    def test_what_is_returned_belongs_to_the_caller(self):
        edits = [("part", "goal", 1), ("put", "goal", 0, NEW)]
        draft, given = edited(START, edits), copy.deepcopy(edits)
        for ask in [draft.edits, lambda: draft.rows("goal"), lambda: elements_in(draft, "goal"), lambda: draft.start().goal()]:
            before, changed = ask(), ask()
            changed.clear()
            self.assertEqual(ask(), before)
        self.assertEqual(edits, given)
        edits.clear()
        self.assertEqual(draft.edits(), given)
