import importlib
import inspect
import unittest

FUNCTIONS = {
    "words": ["is_integer(thing)", "is_name(thing)", "is_relation(thing)", "is_home(thing)", "fresh(names)"],
    "atoms": ["is_atom(thing)", "is_fact(thing)", "is_pattern(thing)", "is_row(thing)", "fits(pattern, atom)",
              "fits_fact(pattern, fact)", "narrower(one, other)", "turned(atom)", "turned_fact(fact)",
              "turned_pattern(pattern)", "chained(one, other)", "both(one, other)", "patterns_of(atom)",
              "atoms_of(patterns)"],
    "picks": ["is_pick(thing)", "is_single(pick)", "surely(one, other)", "home_of(pick)", "bare(pick)", "name_of(pick)",
              "place_of(pick)", "pattern_of(pick)", "picked(pick, rows)", "picks_to(rows, at)"],
    "steps": ["is_step(thing)", "picks_of(step)", "with_pick(step, number, pick)", "done(goal, book, step, aim)"],
    "runs": ["walk(start, script)", "ends(start, script)", "picks(start, script)", "owned(start, script)",
             "meant(start, script)", "is_done(start, script)", "closes(start, script)"],
    "truths": ["holds(atom, values)", "all_hold(rows, values)", "follows(rows, atom)", "possible(rows)",
               "apart(rows, atom)", "ring(rows)", "trail(rows, atom)", "closing(start)"],
    "edits": ["is_edit(thing)", "edited(start, edits)", "elements_in(draft, home)"],
    "classes": ["names_of(held, licence)", "facts_of(held, licence)", "newcomers(held, licence)"],
    "lives": ["life(held, home, gap, row)", "lives(held, licence)", "harmless(held, licence, home, gap)",
              "effect(held, home, gap, row)"],
    "changes": ["changes(held, licence, home, k)"],
    "sums": ["states(held, licence, step, *, most=20000)", "is_closed(held, licence, step, thing)",
             "can_miss(held, step, state)"],
    "strays": ["first_edit(held, licence, step, word)", "fates(held, licence)", "is_sure(held, licence, step)",
               "is_steady(held, licence)"],
    "pins": ["loose(held, licence)", "miss_edit(held, licence, step)", "pin_edit(held, licence, pins)",
             "enough(held, licence, pins)"],
    "alike": ["are_alike(one, other, licence)", "parting_edits(one, other, licence)", "profile(held, home, gap, row)"],
    "swaps": ["may_swap(held, licence, index)", "swaps(held, licence)"],
    "choices": ["choices(held, licence, step, number)", "mended(held, licence)"],
    "notation": ["show_atom(atom)", "show_pattern(pattern)", "show_row(row)", "show_pick(pick)", "show_step(step)",
                 "show_edit(edit)", "show_start(start)", "show_script(script)", "show_edits(edits)", "show_licence(licence)"],
    "readers": ["read_atom(text)", "read_pattern(text)", "read_row(text)", "read_pick(text)", "read_step(text)",
                "read_edit(text)", "read_start(text)", "read_script(text)", "read_edits(text)", "read_licence(text)"],
}
CLASSES = {
    "errors": {"PickError": [], "Wrong": ["__init__(self, place)"], "NoRow": ["__init__(self, at)"],
               "BadStep": ["__init__(self, index)"], "NoStep": ["__init__(self, index)"],
               "NotPicked": ["__init__(self, number)"], "Stuck": [], "Stopped": ["__init__(self, index)"], "Closed": [],
               "BadEdit": ["__init__(self, index)"], "Unlike": [], "HasPlace": ["__init__(self, index)"],
               "TooMany": ["__init__(self, most)"], "Nothing": [], "NoDeed": [], "Full": ["__init__(self, limit)"],
               "Refused": ["__init__(self, deed)"], "NoEntry": ["__init__(self, many)"], "NoText": [], "NoCommand": []},
    "starts": {"Start": ["__init__(self, goal, book, aim)", "goal(self)", "book(self)", "rows(self, home)", "names(self)",
                         "things(self)", "owners(self, home)", "row(self, home, at)", "with_row(self, home, at, row)",
                         "without_row(self, home, at)", "with_aim(self, atom)"]},
    "scripts": {"Script": ["__init__(self, steps)", "steps(self)", "names(self)", "patterns(self)", "places(self)",
                           "with_step(self, index, step)", "without(self, index)", "swapped(self, index)"]},
    "sessions": {"Session": ["__init__(self, start)", "do(self, step)", "would(self, step)", "goal(self)", "start(self)",
                             "script(self)", "back(self)", "again(self)", "trial(self, act)", "copied(self)"]},
    "edits": {"Draft": ["__init__(self, start)", "do(self, edit)", "rows(self, home)", "edits(self)", "back(self)",
                        "start(self)", "first(self)", "copied(self)"]},
    "licences": {"Licence": ["__init__(self, *, goal='none', book='none', names=(), patterns=(), out=(), call=(), turn=(), "
                             "part=(), more=())", "lets(self, draft, edit)", "lets_all(self, start, edits)",
                             "within(self, other)", "where(self, home)", "names(self)", "patterns(self)",
                             "sorts(self, home, k)", "told(self, sort)"]},
    "held": {"Held": ["__init__(self, start, script)", "start(self)", "script(self)", "meant(self)", "misses(self, edits)",
                      "goals(self, edits)", "lost(self, edits)", "outcome(self, edits, *, pins=())"]},
    "book": {"Book": ["__init__(self, start, script)", "do(self, deed)", "back(self)", "again(self)", "start(self)", "script(self)",
                      "log(self)", "past(self, many)", "tried(self, deed)", "copied(self)"]},
    "desk": {"Desk": ["__init__(self, start, script)", "execute(self, line)", "book(self)", "licence(self)"]},
}
SIGNS = {("starts", "Start"): ["__eq__", "__contains__", "__len__"],
         ("scripts", "Script"): ["__eq__", "__len__", "__getitem__", "__add__"],
         ("sessions", "Session"): ["__eq__", "__len__", "__iadd__"], ("edits", "Draft"): ["__eq__", "__len__", "__iadd__"],
         ("licences", "Licence"): ["__eq__", "__and__"], ("book", "Book"): ["__eq__", "__len__"]}
PROPERTIES = [("starts", "Start", "aim"), ("sessions", "Session", "closed")]


def written(name, function):
    return name + str(inspect.signature(function))


class InterfaceTest(unittest.TestCase):
    def test_functions(self):
        for file, functions in FUNCTIONS.items():
            module = importlib.import_module("scriptpicks." + file)
            for text in functions:
                with self.subTest(file=file, text=text):
                    name = text.partition("(")[0]
                    function = getattr(module, name)
                    self.assertEqual(function.__module__, module.__name__)
                    self.assertEqual(written(name, function), text)

    def test_classes(self):
        for file, classes in CLASSES.items():
            module = importlib.import_module("scriptpicks." + file)
            for owner, methods in classes.items():
                thing = getattr(module, owner)
                self.assertEqual(thing.__module__, module.__name__)
                for text in methods:
                    with self.subTest(file=file, owner=owner, text=text):
                        name = text.partition("(")[0]
                        self.assertEqual(written(name, vars(thing)[name]), text)

    def test_signs(self):
        for (file, owner), names in SIGNS.items():
            thing = getattr(importlib.import_module("scriptpicks." + file), owner)
            for name in names:
                self.assertIn(name, vars(thing))

    def test_properties(self):
        for file, owner, name in PROPERTIES:
            thing = getattr(importlib.import_module("scriptpicks." + file), owner)
            self.assertIsInstance(vars(thing)[name], property)
