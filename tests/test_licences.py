import itertools
import random
import unittest

from scriptpicks.atoms import fits, turned
from scriptpicks.edits import Draft, edited
from scriptpicks.errors import Wrong
from scriptpicks.licences import Licence
from scriptpicks.starts import Start
from tests.models import Model, possible_edits
from tests.test_runs import START
from tests.values import odd_values

ATOM, OTHER = ("lt", "x", "y"), ("eq", "y", "z")
NEW, WIDE = ("n", (ATOM,)), ("w", (ATOM, OTHER))
ALL_ROWS = [(home, k) for home in ("goal", "book") for k in range(3)]
SORTS = ("call", "more", "out", "part", "turn")
PLACES = ["goal", "book", "names", "patterns", "out", "call", "turn", "part", "more"]
WORDS = ["none", "front", "back", "any"]
GOOD = {"goal": "any", "book": "front", "names": ["h"], "patterns": [("eq", "", "")], "out": [("goal", 0)],
        "call": (("book", 7),), "turn": [], "part": [("goal", 0), ("goal", 10 ** 59)], "more": ()}
BAD_ROWS = [
    None, True, 0, "", "goal", ("goal", 0), ["goal", 0], [("goal",)], [("goal", 0, 0)], [("goal", -1)], [("goal", True)],
    [("goal", None)], [("home", 0)], [(0, "goal")], [["goal", 0]], [("goal", 0), ("goal", 0)], (("book", 3), ("goal", 3), ("book", 3)),
    {("goal", 0): 1}, {}, [None], [("goal", "0")], [(["goal"], 0)], [("goal", [0])], [("goal", 0), None]]
BAD = {
    "goal": [None, True, "", "both", "Any", "any ", ["any"], ("any",), 0, b"any", {}],
    "names": [None, "h", "", ["h", ""], ["h", None], [("h",)], {"h": 1}, [["h"]], ["Abc"], ["abcdefghi"], [True], {}, ["h", "h", 1]],
    "patterns": [None, ("eq", "", ""), ["eq"], [("eq", "")], [("eq", "", "", "")], [["eq", "", ""]], [("", "", ""), None],
                 [("le", "", "")], [("eq", "A", "")], {}, [(None, "", "")], "", [""]],
    "out": BAD_ROWS,
}


def bad_values(name):
    return BAD.get(name, BAD["goal"] if name == "book" else BAD_ROWS) + [
        thing for thing in odd_values() if thing not in (["a"], ("a",), "any") and thing != ("", "", "", "")
        and not (isinstance(thing, (list, tuple)) and len(thing) and all(type(part) is str for part in thing))]


class MakingTest(unittest.TestCase):
    def assert_wrong(self, place, given):
        with self.assertRaises(ValueError) as caught:
            Licence(**given)
        self.assertIs(type(caught.exception), Wrong)
        self.assertEqual(vars(caught.exception), {"place": place})

    def test_each_argument(self):
        for place, name in enumerate(PLACES):
            for thing in bad_values(name):
                with self.subTest(name=name, thing=repr(thing)[:60]):
                    self.assert_wrong(place, {**GOOD, name: thing})
                    self.assert_wrong(place, {name: thing})

    def test_the_first_wrong_one_is_told(self):
        for one, other in itertools.combinations(range(9), 2):
            self.assert_wrong(one, {**GOOD, PLACES[other]: None, PLACES[one]: None})
        self.assert_wrong(0, dict.fromkeys(PLACES))

    def test_each_one_left_out(self):
        for name in PLACES:
            licence = Licence(**{key: GOOD[key] for key in GOOD if key != name})
            self.assertIsInstance(licence, Licence)
            self.assertEqual(licence, Licence(**{**GOOD, name: "none" if name in ("goal", "book") else ()}))
        self.assertEqual(Licence(), Licence(goal="none", book="none", names=(), patterns=[], out=[], call=(), turn=(), part=[], more=()))

    def test_only_by_keyword(self):
        self.assertRaises(TypeError, lambda: Licence("any"))

    def test_what_it_tells(self):
        licence = Licence(goal="back", names=("k", "h", "k"), patterns=[("gt", "a", ""), ("", "", ""), ("gt", "a", "")],
                          out=[("goal", 2), ("book", 0)], turn=[("goal", 2), ("goal", 11), ("book", 5)], more=(("goal", 2),))
        self.assertEqual([licence.where("goal"), licence.where("book")], ["back", "none"])
        self.assertEqual(licence.names(), ["h", "k"])
        self.assertEqual(licence.patterns(), [("", "", ""), ("gt", "a", "")])
        self.assertEqual(licence.sorts("goal", 2), ["more", "out", "turn"])
        self.assertEqual([licence.sorts("book", 0), licence.sorts("book", 2), licence.sorts("goal", 10 ** 30)], [["out"], [], []])
        self.assertEqual(licence.told("turn"), [("book", 5), ("goal", 2), ("goal", 11)])
        self.assertEqual([licence.told("call"), licence.told("out")], [[], [("book", 0), ("goal", 2)]])
        for sort in SORTS:
            full = Licence(**{sort: ALL_ROWS})
            self.assertEqual([full.sorts("book", 1), full.told(sort)], [[sort], sorted(ALL_ROWS)])

    def test_what_is_given_and_returned_is_copied(self):
        given = {name: list(GOOD[name]) if name not in ("goal", "book") else GOOD[name] for name in PLACES}
        licence = Licence(**given)
        for name in PLACES[2:]:
            given[name].append(None)
        self.assertEqual(licence, Licence(**GOOD))
        for ask in [licence.names, licence.patterns, lambda: licence.sorts("goal", 0), lambda: licence.told("part")]:
            before, changed = ask(), ask()
            changed.append(1)
            self.assertEqual(ask(), before)

    def test_equality(self):
        self.assertTrue(Licence(names=["a", "b", "a"]) == Licence(names=("b", "a")))
        self.assertTrue(Licence(out=[("goal", 0), ("book", 1)]) == Licence(out=(("book", 1), ("goal", 0))))
        self.assertFalse(Licence() != Licence())
        different = [Licence(), Licence(goal="any"), Licence(book="any"), Licence(goal="front"), Licence(names=["a"]),
                     Licence(names=["b"]), Licence(patterns=[("", "", "")])]
        different += [Licence(**{sort: [row]}) for sort in SORTS for row in [("goal", 0), ("book", 0)]]
        for one, other in itertools.product(range(len(different)), repeat=2):
            self.assertIs(different[one] == different[other], one == other)
            self.assertIs(different[one] != different[other], one != other)
        for other in [None, START, [], 0, "none"]:
            self.assertFalse(Licence() == other)


class LetsTest(unittest.TestCase):
    def lets(self, licence, edits, edit):
        return licence.lets(edited(START, edits), edit)

    def test_places(self):
        for home, many in [("goal", 3), ("book", 2)]:
            for word in WORDS:
                licence = Licence(**{home: word})
                allowed = {"none": [], "front": [0], "back": [many], "any": list(range(many + 1))}[word]
                for at in range(many + 1):
                    self.assertIs(licence.lets(Draft(START), ("put", home, at, WIDE)), at in allowed)
                    other = "book" if home == "goal" else "goal"
                    self.assertIs(licence.lets(Draft(START), ("put", other, min(at, 2), WIDE)), False)

    def test_places_among_the_rows_that_are_there_then(self):
        puts = [("put", "goal", 0, NEW), ("put", "goal", 4, NEW)]
        for word, allowed in [("front", [0]), ("back", [5]), ("any", list(range(6)))]:
            licence = Licence(goal=word)
            self.assertEqual([at for at in range(6) if self.lets(licence, puts, ("put", "goal", at, NEW))], allowed)
        outs = [("out", "goal", 0)] * 3
        for word in WORDS:
            self.assertIs(self.lets(Licence(goal=word), outs, ("put", "goal", 0, NEW)), word != "none")
        self.assertIs(Licence(goal="front").lets_all(START, [("put", "goal", 0, NEW)] * 5), True)
        self.assertIs(Licence(goal="back").lets_all(START, [("put", "goal", at, NEW) for at in range(3, 9)]), True)
        self.assertIs(Licence(goal="back").lets_all(START, [("put", "goal", 3, NEW)] * 2), False)

    def test_parts_beside_a_put(self):
        licence, parts = Licence(goal="any", book="any"), [("part", "goal", 1), ("part", "book", 1)]
        for home, many, between in [("goal", 4, 2), ("book", 3, 2)]:
            for at in range(many + 1):
                self.assertIs(self.lets(licence, parts, ("put", home, at, NEW)), at != between)
        self.assertIs(self.lets(licence, parts + [("out", "goal", 1)], ("put", "goal", 2, NEW)), True)
        # A row that stands between parts, or beside rows that were put in, is no part.
        put = [("part", "goal", 1), ("put", "goal", 2, NEW)]
        self.assertEqual([self.lets(licence, put, ("put", "goal", at, NEW)) for at in range(6)], [True] * 6)
        puts = [("put", "goal", 1, NEW), ("put", "goal", 1, WIDE)]
        self.assertEqual([self.lets(licence, puts, ("put", "goal", at, NEW)) for at in range(6)], [True] * 6)
        alone = Start([WIDE], [], ATOM)
        self.assertEqual([licence.lets(edited(alone, [("part", "goal", 0)]), ("put", "goal", at, NEW)) for at in range(3)],
                         [True, False, True])
        twin = Start([WIDE, WIDE], [WIDE], ATOM)
        self.assertIs(licence.lets(Draft(twin), ("put", "goal", 1, WIDE)), True)

    def test_barred_names(self):
        licence = Licence(goal="any", names=["n", "m"], call=ALL_ROWS)
        self.assertIs(self.lets(licence, [], ("put", "goal", 0, NEW)), False)
        self.assertIs(self.lets(licence, [], ("put", "goal", 0, WIDE)), True)
        for name in ("n", "m", "nn", "h"):
            self.assertIs(self.lets(licence, [], ("call", "book", 1, name)), name not in ("n", "m"))

    def test_barred_atoms_and_turned_ones(self):
        atoms = [("lt", "x", "y"), ("gt", "y", "x"), ("eq", "x", "y"), ("eq", "y", "x"), ("lt", "y", "x"), ("eq", "z", "z")]
        for pattern in itertools.product(("", "eq", "lt", "gt"), ("", "x", "y"), ("", "x", "y", "z")):
            licence = Licence(goal="any", patterns=[("eq", "u", ""), pattern], more=ALL_ROWS)
            for atom in atoms:
                barred = fits(pattern, atom) or fits(pattern, turned(atom))
                for fact in [(atom,), (("eq", "p", "q"), atom), (atom, ("eq", "p", "q"))]:
                    plain = fits(pattern, ("eq", "p", "q")) or fits(pattern, ("eq", "q", "p"))
                    self.assertIs(licence.lets(Draft(START), ("put", "goal", 1, ("n", fact))),
                                  not barred and not (plain and len(fact) == 2))
                for side in (0, 1):
                    self.assertIs(licence.lets(Draft(START), ("more", "goal", 0, atom, side)), not barred)

    def test_other_edits_ask_for_no_bars(self):
        licence = Licence(names=["h", "k"], patterns=[("", "", "")], out=ALL_ROWS, turn=ALL_ROWS, part=ALL_ROWS, call=ALL_ROWS)
        for edit in [("out", "goal", 0), ("turn", "goal", 1), ("part", "goal", 1), ("call", "goal", 0, "m")]:
            self.assertIs(self.lets(licence, [], edit), True)

    def test_rows_that_are_told(self):
        rests = {"call": ("m",), "more": (ATOM, 0)}
        for sort, (home, k) in itertools.product(SORTS, [("goal", 0), ("goal", 1), ("book", 0), ("book", 1)]):
            licence = Licence(**{sort: [(home, k)]})
            for other, at_home, at in itertools.product(SORTS, ("goal", "book"), range(2)):
                edit = (other, at_home, at) + rests.get(other, ())
                if (other == "part") > (at == 1) or (other == "more") > (at == 0):
                    continue
                self.assertIs(self.lets(licence, [], edit), (other, at_home, at) == (sort, home, k))

    def test_rows_keep_their_numbers(self):
        licence = Licence(turn=[("goal", 1)], part=[("goal", 1), ("goal", 9)])
        moved = [("put", "goal", 0, NEW), ("part", "goal", 2)]
        self.assertEqual([self.lets(licence, moved, ("turn", "goal", at)) for at in range(5)], [False, False, True, True, False])
        self.assertIs(self.lets(licence, [("out", "goal", 0)], ("turn", "goal", 0)), True)
        self.assertIs(self.lets(licence, [("out", "goal", 0)], ("turn", "goal", 1)), False)

    def test_lets_all(self):
        licence = Licence(goal="any", names=["h"], turn=[("goal", 1)], part=[("goal", 1)])
        good = [("part", "goal", 1), ("put", "goal", 0, NEW), ("turn", "goal", 3)]
        self.assertIs(licence.lets_all(START, []), True)
        self.assertIs(licence.lets_all(START, good), True)
        self.assertIs(licence.lets_all(START, good[:1] + [("put", "goal", 2, NEW)]), False)
        for bad in odd_values() + [("out", "goal", 9), ("turn", "goal", 0), ("part", "goal", 2), ("put", "goal", 6, NEW),
                                   ("put", "goal", 0, ("h", (ATOM,))), list(good[0])]:
            with self.subTest(bad=repr(bad)[:60]):
                self.assertIs(licence.lets_all(START, good + [bad]), False)
                self.assertIs(licence.lets_all(START, [bad] + good), False)
        self.assertIs(Licence(turn=[("goal", 3)]).lets_all(START, [("turn", "goal", 3)]), False)

    def test_random_edits_against_the_model(self):
        chance, told = random.Random(62), {True: 0, False: 0}
        atoms, names = [ATOM, OTHER, ("gt", "y", "x")], ["h", "m", "n"]
        for _ in range(250):
            licence = Licence(
                goal=chance.choice(WORDS), book=chance.choice(WORDS), names=chance.sample(names, chance.randrange(3)),
                patterns=chance.sample([("", "x", ""), ("eq", "", ""), ("gt", "y", "x")], chance.randrange(2)),
                **{sort: chance.sample(ALL_ROWS, chance.randrange(6)) for sort in SORTS})
            model, edits, is_allowed = Model(START), [], True
            for _ in range(6):
                edit = chance.choice(possible_edits(model, chance, atoms, names))
                allowed = self.allows(licence, model, edit)
                draft = edited(START, edits)
                if not model.do(edit):
                    self.assertIs(licence.lets_all(START, edits + [edit]), False)
                    continue
                self.assertIs(licence.lets(draft, edit), allowed)
                told[allowed] += 1
                edits, is_allowed = edits + [edit], is_allowed and allowed
                self.assertIs(licence.lets_all(START, edits), is_allowed)
        self.assertGreater(min(told.values()), 100)

    def allows(self, licence, model, edit):
        def barred(atom):
            return any(fits(pattern, said) for pattern in licence.patterns() for said in (atom, turned(atom)))
        sort, home, at = edit[:3]
        rows = model.homes[home]
        if sort == "put":
            name, fact = edit[3]
            between = 0 < at < len(rows) and rows[at - 1].element == rows[at].element
            there = {"none": False, "front": at == 0, "back": at == len(rows), "any": True}[licence.where(home)]
            return there and not between and name not in licence.names() and not any(map(barred, fact))
        if at >= len(rows):
            return False
        bars = sort == "call" and edit[3] in licence.names() or sort == "more" and barred(edit[3])
        return not bars and (home, rows[at].element) in licence.told(sort)


class BothTest(unittest.TestCase):
    def some(self):
        chance, names, patterns = random.Random(63), ["h", "k", "m"], [("", "", ""), ("eq", "", ""), ("", "a", "")]
        rows = ALL_ROWS[:1] + ALL_ROWS[3:5]
        return [Licence()] + [
            Licence(goal=chance.choice(WORDS), book=chance.choice(WORDS), names=chance.sample(names, chance.randrange(3)),
                    patterns=chance.sample(patterns, chance.randrange(2)),
                    **{sort: chance.sample(rows, chance.randrange(3)) for sort in chance.sample(SORTS, 2)}) for _ in range(80)]

    def test_places_of_both(self):
        for one, other in itertools.product(WORDS, repeat=2):
            expected = one if one == other or other == "any" else other if one == "any" else "none"
            for home in ("goal", "book"):
                licence = Licence(**{home: one}) & Licence(**{home: other})
                self.assertEqual(licence, Licence(**{home: expected}))
                self.assertIs(Licence(**{home: one}).within(Licence(**{home: other})), one in ("none", other) or other == "any")

    def test_both(self):
        licences = self.some()
        for one, other in zip(licences, licences[::-1]):
            common = one & other
            self.assertIsInstance(common, Licence)
            self.assertEqual(common, other & one)
            for sort in SORTS:
                self.assertEqual(common.told(sort), sorted(set(one.told(sort)) & set(other.told(sort))))
            self.assertEqual(common.names(), sorted(set(one.names()) | set(other.names())))
            self.assertEqual(common.patterns(), sorted(set(one.patterns()) | set(other.patterns())))
            self.assertIs(common.within(one), True)
            self.assertIs(common.within(other), True)
            self.assertEqual(one & one, one)

    def test_both_is_of_licences_alone(self):
        for other in [None, 1, True, [], "any"]:
            self.assertRaises(TypeError, lambda: Licence() & other)

    def test_within(self):
        licences, told = self.some(), {True: 0, False: 0}
        for one, other in itertools.product(licences[:60], licences):
            places = all(one.where(home) in ("none", other.where(home)) or other.where(home) == "any" for home in ("goal", "book"))
            rows = all(set(one.told(sort)) <= set(other.told(sort)) for sort in SORTS)
            bars = set(other.names()) <= set(one.names()) and set(other.patterns()) <= set(one.patterns())
            self.assertIs(one.within(other), places and rows and bars)
            told[places and rows and bars] += 1
        self.assertGreater(min(told.values()), 60)

    def test_within_one_reason_at_a_time(self):
        wide = Licence(goal="any", book="any", **{sort: ALL_ROWS for sort in SORTS})
        self.assertIs(wide.within(wide), True)
        for less in [{"goal": "front"}, {"book": "back"}, {"names": ["h"]}, {"patterns": [("", "", "")]}] + [
                {sort: ALL_ROWS[:5]} for sort in SORTS]:
            narrow = Licence(**{"goal": "any", "book": "any", **{sort: ALL_ROWS for sort in SORTS}, **less})
            self.assertIs(narrow.within(wide), True)
            self.assertIs(wide.within(narrow), False)
        # Patterns are compared as they are told, not by what they bar.
        self.assertIs(Licence(patterns=[("", "", "")]).within(Licence(patterns=[("eq", "", "")])), False)
