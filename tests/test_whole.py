"""What the document promises over the whole program: results that are new, the same each time, and depend on nothing else."""

import copy
import random
import unittest

from scriptpicks.alike import are_alike, parting_edits, profile
from scriptpicks.changes import changes
from scriptpicks.choices import choices, mended
from scriptpicks.classes import facts_of, names_of, newcomers
from scriptpicks.desk import Desk
from scriptpicks.edits import edited, elements_in
from scriptpicks.held import Held
from scriptpicks.licences import Licence
from scriptpicks.lives import effect, harmless, life, lives
from scriptpicks.notation import show_edits, show_licence, show_script, show_start
from scriptpicks.picks import picks_to
from scriptpicks.pins import enough, loose, miss_edit, pin_edit
from scriptpicks.readers import read_edits, read_licence, read_script, read_start
from scriptpicks.runs import ends, owned, walk
from scriptpicks.runs import meant as meant_by
from scriptpicks.runs import picks as picks_by
from scriptpicks.scripts import Script
from scriptpicks.starts import Start
from scriptpicks.steps import picks_of
from scriptpicks.strays import fates, first_edit, is_steady, is_sure
from scriptpicks.sums import can_miss, is_closed, states
from scriptpicks.swaps import may_swap, swaps
from tests.test_alike import bent, parted_by
from tests.test_runs import H, K, START, lists_in
from tests.trials import SORTS, Trials

ROW = ("h", (("eq", "a", "b"), ("lt", "b", "c")))


def told_of(held, other, licence, pins, edits):
    """Return the dict of all that is told of two Helds and a licence, with lists among the arguments."""
    start, script = held.start(), held.script()
    steps = range(len(script))
    told = {"start": [start.goal(), start.book(), start.names(), start.things(), start.owners("goal")],
            "script": [script.steps(), script.names(), script.patterns(), script.places()],
            "runs": [ends(start, script), picks_by(start, script), owned(start, script), meant_by(start, script), list(walk(start, script))],
            "picks_to": [picks_to(start.goal(), at) for at in range(len(start.goal()))],
            "edits": [edited(start, edits).rows("goal"), edited(start, edits).edits(), elements_in(edited(start, edits), "book")],
            "licence": [licence.names(), licence.patterns(), [licence.told(sort) for sort in SORTS], licence.sorts("goal", 0)],
            "held": [held.meant(), held.misses(edits), held.lost(edits), held.goals(edits), held.outcome(edits, pins=pins)],
            "classes": [names_of(held, licence), facts_of(held, licence), newcomers(held, licence)],
            "lives": [life(held, "goal", 0, ROW), lives(held, licence), harmless(held, licence, "goal", 0), list(effect(held, "book", 0, ROW))],
            "changes": [changes(held, licence, "goal", k) for k in range(len(start.goal()))],
            "fates": [fates(held, licence), is_steady(held, licence), [is_sure(held, licence, step) for step in steps]],
            "firsts": [first_edit(held, licence, step, word) for step in steps for word in ("misses", "lost")],
            "states": [states(held, licence, step) for step in steps],
            "pins": [loose(held, licence), enough(held, licence, pins), pin_edit(held, licence, pins), [miss_edit(held, licence, step) for step in steps]],
            "alike": [are_alike(held, other, licence), parting_edits(held, other, licence), list(profile(held, "goal", 0, ROW))],
            "swaps": [swaps(held, licence), [may_swap(held, licence, index) for index in range(len(script) - 1)]],
            "choices": [choices(held, licence, step, number) for step in steps for number in range(len(picks_of(script[step])))],
            "mended": [show_script(mended(held, licence)[0]), mended(held, licence)[1]],
            "texts": [show_start(start), show_script(script), show_edits(edits), show_licence(licence)],
            "readers": [read_edits(show_edits(edits))]}
    told["closed"] = [is_closed(held, licence, step, told["states"][step]) for step in steps]
    told["ends"] = [[can_miss(held, step, state) for state in told["states"][step]] for step in steps]
    return told


def truths_in(told):
    """Return the list of what is told that is to be a truth."""
    found = told["closed"] + [truth for truths in told["ends"] for truth in truths] + [told["fates"][1], told["pins"][1], told["alike"][0]]
    return found + told["fates"][2] + told["swaps"][1]


class WholeCase(unittest.TestCase):
    def pairs(self, seed, many):
        """Yield Trials, a start and two scripts without "at"."""
        trials = Trials(random.Random(seed), False)
        while many > 0:
            trials.renew()
            start = trials.start(3, 2)
            script = trials.script(start, 4)
            if len(start.goal()) > 0 and len(script) > 0:
                many -= 1
                yield trials, start, script


class WholeTest(WholeCase):
    def test_results_are_new_and_the_same_each_time(self):
        for trials, start, script in self.pairs(181, 12):
            licence = trials.licence(start, ["h", "k"], 0.4)
            one, pins, edits = Held(start, script), [0], [("out", "goal", 0)]
            first, second = told_of(one, one, licence, pins, edits), told_of(one, one, licence, pins, edits)
            self.assertEqual(first, second)
            self.assertEqual((pins, edits), ([0], [("out", "goal", 0)]))
            kept = copy.deepcopy(first)
            lists = [part for told in (first, second) for group in told.values() for part in lists_in(group)]
            self.assertEqual(len({id(part) for part in lists}), len(lists))
            for part in lists:
                part.clear()
            self.assertEqual(told_of(one, one, licence, pins, edits), kept)
            for truth in truths_in(kept):
                self.assertIn(repr(truth), ("True", "False"))

    def test_results_depend_on_nothing_else(self):
        """One Held, asked of several licences, words and pins by turns, tells what a new one tells."""
        for trials, start, script in self.pairs(182, 8):
            licences = [trials.licence(start, ["h", "k"], 0.4) for _ in range(3)]
            one, other = Held(start, script), Held(start, script)
            for licence in licences + licences[::-1]:
                pins, edits = [trials.chance.randrange(3)], [("turn", "goal", 0)]
                same = read_licence(show_licence(licence))
                new = Held(read_start(show_start(start)), read_script(show_script(script)))
                self.assertEqual(told_of(one, other, licence, pins, edits), told_of(new, new, same, tuple(pins), tuple(edits)))

    def test_what_is_returned_may_be_passed_in(self):
        for trials, start, script in self.pairs(183, 12):
            licence = trials.licence(start, ["h", "k"], 0.4)
            one = Held(start, script)
            other = Held(start, mended(one, licence)[0])
            self.assertEqual(loose(other, licence), mended(one, licence)[1])
            self.assertEqual(mended(other, licence)[1], loose(other, licence))
            self.assertIs(enough(one, licence, loose(one, licence)), True)
            for step in range(len(script)):
                edits = miss_edit(one, licence, step)
                if edits is not None:
                    self.assertIn(step, one.misses(edits))
                    self.assertEqual(read_edits(show_edits(edits)), edits)


class NamesTest(WholeCase):
    """Names exchanged one to one exchange the results."""

    def exchanged(self, thing, change):
        if isinstance(thing, (list, tuple)):
            return [self.exchanged(part, change) for part in thing] if isinstance(thing, list) else tuple(self.exchanged(part, change) for part in thing)
        return change.get(thing, thing) if isinstance(thing, str) else thing

    def of(self, held, licence, change):
        """Return the Held and the Licence with other names."""
        start = held.start()
        script = Script(self.exchanged(held.script().steps(), change))
        other = Held(Start(self.exchanged(start.goal(), change), self.exchanged(start.book(), change), self.exchanged(start.aim, change)), script)
        return other, Licence(goal=licence.where("goal"), book=licence.where("book"), names=self.exchanged(licence.names(), change),
                              patterns=self.exchanged(licence.patterns(), change), **{sort: licence.told(sort) for sort in SORTS})

    def test_names_exchanged(self):
        letters = "hkmtabcxyz"
        for trials, start, script in self.pairs(184, 25):
            change = dict(zip(letters, trials.chance.sample(letters, len(letters))))
            licence, one = trials.licence(start, ["h", "k"], 0.4), Held(start, script)
            other, other_licence = self.of(one, licence, change)
            self.assertEqual(fates(one, licence), fates(other, other_licence))
            self.assertEqual(loose(one, licence), loose(other, other_licence))
            self.assertEqual(swaps(one, licence), swaps(other, other_licence))
            self.assertEqual(mended(one, licence)[1], mended(other, other_licence)[1])
            for step in range(len(script)):
                lengths = [[None if edits is None else len(edits) for edits in (miss_edit(held, allowed, step), first_edit(held, allowed, step, "lost"))]
                           for held, allowed in ((one, licence), (other, other_licence))]
                self.assertEqual(lengths[0], lengths[1])
                for number in range(len(picks_of(script[step]))):
                    told = choices(one, licence, step, number)
                    self.assertEqual(sorted(self.exchanged(told, change)), choices(other, other_licence, step, number))


class AlikeTest(WholeCase):
    def test_alike_scripts_stay_alike_in_a_narrower_licence(self):
        seen = []
        for trials, start, script in self.pairs(185, 40):
            if len(script) > 1:
                try:
                    one, other = Held(start, script), Held(start, bent(trials, script))
                except ValueError:
                    continue
                wide, narrow = [trials.licence(start, ["h", "k"], 0.6) for _ in range(2)]
                narrow = narrow & wide
                self.assertIs(narrow.within(wide), True)
                if are_alike(one, other, wide):
                    self.assertIs(are_alike(one, other, narrow), True)
                edits = parting_edits(one, other, narrow)
                if edits is not None:
                    self.assertIs(parted_by(one, other, edits), True)
                    self.assertIs(are_alike(one, other, wide), False)
                seen.append(edits is None)
                # Also for strays, pins and choices.
                for told, more in zip(fates(one, narrow), fates(one, wide)):
                    self.assertLessEqual(set(told), set(more))
                self.assertLessEqual(set(loose(one, narrow)), set(loose(one, wide)))
        self.assertGreater(min(seen.count(True), seen.count(False)), 3)


class UndoneTest(unittest.TestCase):
    def test_books_and_desks_stand_where_they_were(self):
        chance = random.Random(186)
        desk = Desk(START, Script([("turn", H), ("turn", K)]))
        lines = ["step 1 turn last", "swap 0", "edit turn goal 0", "pick 0 0 at 1", "cut 2", "edit put book 1 h: a = b"]
        shows = [desk.execute("show")]
        for line in lines:
            desk.execute(line)
            shows.append(desk.execute("show"))
        book = desk.book()
        for _ in range(50):
            many = chance.randrange(len(lines) + 1)
            while len(desk.book()) > many:
                desk.execute("back")
            while len(desk.book()) < many:
                desk.execute("again")
            self.assertEqual(desk.execute("show"), shows[many])
            self.assertEqual((desk.book().start(), desk.book().script()), book.past(many))
        while len(desk.book()) < len(lines):
            desk.execute("again")
        self.assertEqual(desk.book(), book)
