import itertools
import random
import unittest

from scriptpicks.atoms import atoms_of, fits, turned
from scriptpicks.classes import facts_of, names_of, newcomers
from scriptpicks.edits import Draft
from scriptpicks.held import Held
from scriptpicks.licences import Licence
from scriptpicks.lives import effect, life
from scriptpicks.scripts import Script
from tests.models import done_script
from tests.test_runs import ALL, H, K, LAST, START, some_steps

ANY = Licence(goal="any", book="any")
SAME = ("eq", "a", "a")


def held(*steps):
    return Held(START, Script(list(steps)))


def barred(licence, atom):
    return any(fits(pattern, said) for pattern in licence.patterns() for said in (atom, turned(atom)))


def behaviour(one, home, gap, row):
    """Return what a newcomer does, and which rows come of it, beside their names and facts."""
    return effect(one, home, gap, row), [[since for _, _, since in rows] for rows in life(one, home, gap, row)]


class ClassesTest(unittest.TestCase):
    def test_names_of(self):
        one = held(("turn", H), ("copy", ("book", ("name", "trans")), "zz"), ("turn", ("name", "zz")), ("turn", H))
        for barred_names, expected in [
                ([], ["a", "h", "trans", "zz"]), (["h"], ["a", "trans", "zz"]), (["a"], ["b", "h", "trans", "zz"]),
                (["a", "b", "c", "zz"], ["d", "h", "trans"]), (["zz", "h", "trans"], ["a"]),
                (["zz", "h", "trans", "a"], ["b"]), (["q"], ["a", "h", "trans", "zz"])]:
            self.assertEqual(names_of(one, Licence(names=barred_names)), expected)

    def test_names_of_without_picks_by_name(self):
        one = held(("turn", LAST), ("call", LAST, "a"), ("copy", LAST, "b"))
        self.assertEqual([names_of(one, ANY), names_of(one, Licence(names=["a"])), names_of(one, Licence(names=["b"]))],
                         [["a"], ["b"], ["a"]])
        # The names that steps give do not count, and those of rows do not.
        self.assertEqual(names_of(held(("call", LAST, "a"), ("turn", ("name", "a"))), ANY), ["a", "b"])

    def test_facts_of(self):
        one = held(("turn", ("like", ("eq", "a", ""))))
        atoms = atoms_of([("eq", "a", "")])
        self.assertEqual(len(atoms), 4)
        expected = sorted([(atom,) for atom in atoms] + list(itertools.product(atoms, repeat=2)))
        self.assertEqual(facts_of(one, ANY), expected)
        self.assertEqual(len(expected), 20)
        # A barred pattern tells atoms apart, too, and bars atoms that fit it, or that fit it turned.
        few = Licence(patterns=[("lt", "", "c")])
        atoms = [atom for atom in atoms_of([("eq", "a", ""), ("lt", "", "c")]) if not barred(few, atom)]
        self.assertNotIn(("gt", "c", "a"), atoms)
        self.assertEqual(facts_of(one, few), sorted([(atom,) for atom in atoms] + list(itertools.product(atoms, repeat=2))))
        self.assertEqual(facts_of(one, Licence(patterns=[("", "", "")])), [])
        self.assertEqual(newcomers(one, Licence(patterns=[("", "", ""), ("eq", "", "")])), [])

    def test_without_patterns(self):
        one = held(("turn", LAST), ("turn", H))
        self.assertEqual(facts_of(one, ANY), [(SAME,), (SAME, SAME)])
        self.assertEqual(newcomers(one, ANY), [("a", (SAME,)), ("a", (SAME, SAME)), ("h", (SAME,)), ("h", (SAME, SAME))])
        # An empty script has the one name and the one atom.
        self.assertEqual(newcomers(held(), ANY), [("a", (SAME,)), ("a", (SAME, SAME))])

    def test_patterns_of_picks_in_the_book(self):
        one = held(("copy", ("book", ("all", ("", "q", ""))), "m"))
        self.assertEqual(facts_of(one, ANY), sorted([(atom,) for atom in atoms_of([("", "q", "")])] + list(
            itertools.product(atoms_of([("", "q", "")]), repeat=2))))

    def test_newcomers(self):
        one = held(("turn", ("like", ("lt", "b", ""))), ("drop", H), ("part", K))
        for licence in [ANY, Licence(), Licence(names=["h"], patterns=[("eq", "", "")]), Licence(patterns=[("", "b", "")])]:
            names, facts = names_of(one, licence), facts_of(one, licence)
            self.assertEqual(newcomers(one, licence), sorted(itertools.product(names, facts)))
            self.assertEqual([names, facts], [sorted(set(names)), sorted(set(facts))])
            for row in newcomers(one, licence):
                allowed = ANY & Licence(goal="any", names=licence.names(), patterns=licence.patterns())
                self.assertIs(allowed.lets(Draft(START), ("put", "goal", 1, row)), True)

    def test_results_are_new(self):
        one = held(("turn", H), ("turn", ALL))
        for ask in (names_of, facts_of, newcomers):
            told = ask(one, ANY)
            told.clear()
            self.assertNotEqual(ask(one, ANY), [])

    def test_each_other_row_does_what_one_of_them_does(self):
        chance, steps = random.Random(75), some_steps()
        names = ["h", "k", "m", "a", "b", "zz", "trans", "abcdefgh"]
        things = ["a", "b", "c", "d", "q", "x", "zz"]
        seen = set()
        for _ in range(150):
            one = Held(START, done_script(START, chance, steps, 6))
            licence = Licence(goal="any", book="any", names=chance.sample(names, chance.randrange(3)),
                              patterns=chance.sample([("eq", "", ""), ("", "q", ""), ("lt", "", "c")], chance.randrange(2)))
            for home, gap in [("goal", chance.randrange(4)), ("book", chance.randrange(3))]:
                told = [behaviour(one, home, gap, row) for row in newcomers(one, licence)]
                for _ in range(4):
                    fact = tuple((chance.choice(["eq", "lt", "gt"]), chance.choice(things), chance.choice(things))
                                 for _ in range(chance.randrange(1, 3)))
                    row = (chance.choice(names), fact)
                    if row[0] in licence.names() or any(barred(licence, atom) for atom in fact):
                        continue
                    does = behaviour(one, home, gap, row)
                    self.assertIn(does, told)
                    seen.add(repr(does))
        self.assertGreater(len(seen), 60)
