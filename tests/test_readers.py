import random
import unittest

from scriptpicks.errors import NoText
from scriptpicks.licences import Licence
from scriptpicks.notation import (
    show_atom, show_edit, show_edits, show_licence, show_pattern, show_pick, show_row, show_script, show_start, show_step)
from scriptpicks.readers import (
    read_atom, read_edit, read_edits, read_licence, read_pattern, read_pick, read_row, read_script, read_start, read_step)
from scriptpicks.scripts import Script
from scriptpicks.starts import Start
from tests.test_notation import TEXTS
from tests.trials import Trials, Universe
from tests.values import odd_values

READERS = {show_atom: read_atom, show_pattern: read_pattern, show_row: read_row, show_pick: read_pick, show_step: read_step,
           show_edit: read_edit, show_start: read_start, show_script: read_script, show_edits: read_edits, show_licence: read_licence}
SIGNS = " \nabkz019=<>?~:&-_A"
TEN = "1234567890"


def bent(text):
    """Return the texts that are another one with one sign more, less or in the place of another."""
    found = [text[:at] + text[at + 1:] for at in range(len(text))]
    found += [text[:at] + sign + text[at:] for at in range(len(text) + 1) for sign in SIGNS]
    found += [text[:at] + sign + text[at + 1:] for at in range(len(text)) for sign in SIGNS]
    found += [text[:at] + text[at + 1] + text[at] + text[at + 2:] for at in range(len(text) - 1)]
    return [other for other in found if other != text]


class ReadersCase(unittest.TestCase):
    def refuse(self, read, *texts):
        for text in texts:
            with self.subTest(read=read.__name__, text=text), self.assertRaises(NoText) as caught:
                read(text)
            self.assertIs(type(caught.exception), NoText)
            self.assertEqual(vars(caught.exception), {})

    def read_or_refused(self, show, read, text):
        """Check that a text is read as something with just this text, or refused; return whether it is read."""
        try:
            thing = read(text)
        except NoText:
            return False
        self.assertEqual(show(thing), text)
        return True


class AllTextsTest(ReadersCase):
    def test_each_text_is_read(self):
        for show, told in TEXTS.items():
            for thing, text in told:
                with self.subTest(text=text):
                    self.assertEqual(READERS[show](text), thing)
                    self.assertIs(type(READERS[show](text)), type(thing))

    def test_each_text_bent(self):
        for show, told in TEXTS.items():
            many = 0
            for thing, text in told:
                for other in bent(text):
                    many += self.read_or_refused(show, READERS[show], other)
            self.assertGreater(many, 3)

    def test_texts_of_others(self):
        texts = {text for told in TEXTS.values() for thing, text in told}
        for show, told in TEXTS.items():
            own = {text for thing, text in told}
            for text in texts:
                is_read = self.read_or_refused(show, READERS[show], text)
                if text in own:
                    self.assertIs(is_read, True)
        self.refuse(read_atom, "? = b", "a ~ b", "h: a = b", "turn last")
        self.refuse(read_pattern, "h: a = b", "a = b & a = b", "like a = b")

    def test_any_value(self):
        for read in READERS.values():
            for thing in odd_values() + [12, -1, 10 ** 59, b"a = b", ("a = b",), ["a = b\n"], "x" * 5000, " " * 3000, "book " * 3000, "\n" * 3000,
                                         "a = b & " * 500, "9" * 5000]:
                if not (isinstance(thing, str) and thing == "" and read in (read_script, read_edits)):
                    with self.assertRaises(NoText):
                        read(thing)

    def test_blanks_and_line_feeds(self):
        for show, told in TEXTS.items():
            for thing, text in told:
                if text:
                    bad = [" " + text, text + " ", text.replace(" ", "  ", 1), text + "\n", "\n" + text, text.replace(" ", "\n", 1)]
                    lines = show in (show_start, show_script, show_edits, show_licence)
                    self.refuse(READERS[show], *[other for other in bad if other != text], *([text[:-1], text.replace("\n", "\n\n", 1)] if lines else []))

    def test_by_chance(self):
        chance = random.Random(151)
        trials = Trials(chance)
        for _ in range(60):
            trials.renew()
            start = trials.start(6, 4)
            script = trials.script(start, 8)
            licence = trials.licence(start, ["h", "k", "m"], 0.4)
            universe = Universe(chance, [script], licence, start.aim, 4)
            for edits in universe.lists(start, licence, 4, 1):
                self.assertEqual(read_edits(show_edits(edits)), edits)
                for edit in edits:
                    self.assertEqual(read_edit(show_edit(edit)), edit)
            self.assertEqual(read_start(show_start(start)), start)
            self.assertEqual(read_script(show_script(script)), script)
            self.assertEqual(read_licence(show_licence(licence)), licence)
            for step in script.steps():
                self.assertEqual(read_step(show_step(step)), step)

    def test_results_are_new(self):
        told = read_edits("out goal 1\n")
        told.clear()
        self.assertEqual(read_edits("out goal 1\n"), [("out", "goal", 1)])


class EachKindTest(ReadersCase):
    def test_atoms_and_patterns(self):
        self.refuse(read_atom, "", "a", "a =", "a = ", "= b", " = b", "a b", "a=b", "a == b", "a ! b", "a = B", "a = b1", "a = abcdefghi", "a = b c", "a = ?",
                    "? ~ ?", "a = b & b = c", "a eq b", "eq a b", "a < = b")
        self.refuse(read_pattern, "", "?", "? ?", "~ ? ?", "? ~", "? ~ ", "?  ?", " ~ ", "? ~ ? ?", "?? ~ ?", "? ~~ ?", "a ? b", "? ~ abcdefghi")

    def test_rows(self):
        self.refuse(read_row, "", "h", "h:", "h: ", "h a = b", "h : a = b", "h:a = b", ": a = b", "h:: a = b", "H: a = b", "abcdefghi: a = b", "h: a = b &",
                    "h: a = b & ", "h: a = b b = c", "h: a = b & b = c & c = d", "h: & a = b", "h: a = b && b = c", "h: a ~ b", "h: a = ?", "h: a = b, b = c")

    def test_picks(self):
        self.refuse(read_pick, "", "name", "name ", "name H", "name h h", "names h", "h", "at", "at ", "at -1", "at 01", "at 00", "at +1", "at 1.", "at a",
                    "at " + TEN, "at 0" + TEN, "at " + "9" * 5000, "last 1", "last ", "lasts", "like", "like a", "like a =", "like a = b c", "all", "all ?", "all ? ~",
                    "book", "book ", "book book last", "book last last", "last book", "book at 01", "goal last", "like name", "at one")
        self.assertEqual(read_pick("at " + TEN[:9]), ("at", 123456789))
        self.assertEqual(read_pick("at 0"), ("at", 0))

    def test_steps(self):
        self.refuse(read_step, "", "turn", "turn ", "turn h", "turn last last", "turn last as m", "turn book last", "turns last", "last", "call last", "call last as",
                    "call last as ", "call last m", "call last as m n", "call last as M", "call book last as m", "copy last", "copy as m", "copy last at m",
                    "copy book as m", "chain last with last", "chain last as m", "chain last last as m", "chain last with as m", "chain with last as m",
                    "chain last with last with last as m", "chain all a = b with last as m", "chain last with all ? ~ ? as m", "chain book last with last as m",
                    "close", "close all ? ~ ?", "close book last", "close last as m", "part all", "drop at 0" + TEN, "chain last  with last as m", "as m", "with")
        self.assertEqual(read_step("chain name with with like as = with as as"), ("chain", ("name", "with"), ("like", ("eq", "as", "with")), "as"))

    def test_edits(self):
        self.refuse(read_edit, "", "put", "put goal", "put goal 0", "put goal 0 ", "put goal h: a = b", "put 0 h: a = b", "put goal 0 a = b", "put goal 01 h: a = b",
                    "put goal -1 h: a = b", "put home 0 h: a = b", "put goal " + TEN + " h: a = b", "out", "out goal", "out 1", "out goal 1 1", "out goal one",
                    "out Goal 1", "out aim 1", "call goal 1", "call goal m", "call goal 1 M", "call goal 1 m m", "call goal 1 as m", "turn goal", "turn last",
                    "turn goal 1 m", "part goal 00", "more goal 1 a = b", "more goal 1 2 a = b", "more goal 1 0", "more goal 1 00 a = b", "more goal 1 0 a ~ b",
                    "more goal 1 0 a = b & b = c", "more goal 1 1 h: a = b", "in goal 1", "out goal 1\n", "more goal 1 -1 a = b", "more goal 1 " + TEN + " a = b")
        self.refuse(read_edits, "out goal 1", "out goal 1\n\n", "\nout goal 1\n", "\n", "out goal 1\nout\n", "out goal 1 \n", " ", "out goal 1\r\n")

    def test_starts(self):
        self.refuse(read_start, "", "\n", "aim a = b", "aim a = b\n\n", "\naim a = b\n", "goal h: a = b\n", "aim a = b\naim a = b\n", "aim a = b\ngoal h: a = b\n",
                    "book h: a = b\ngoal h: a = b\naim a = b\n", "goal h: a = b\naim a = b\nbook h: a = b\n", "goal\naim a = b\n", "goal a = b\naim a = b\n",
                    "goal h: a = b \naim a = b\n", "aim a ~ b\n", "aim h: a = b\n", "aims a = b\n", "aim\n", "goal h: a = b\n\naim a = b\n", "goal h: a = b aim a = b\n",
                    "goal goal h: a = b\naim a = b\n", "h: a = b\naim a = b\n", "a = b\n", "goal h: a = b\nbook\naim a = b\n")

    def test_scripts(self):
        self.refuse(read_script, "turn last", "turn last\n\n", "\n", "\nturn last\n", "close last\nturn last\n", "close last\nclose last\n", "turn last\nturn\n",
                    "turn last turn last\n", " turn last\n", "turn last\n ")
        self.assertEqual(read_script(""), Script([]))
        self.assertEqual(read_script("turn last\nclose last\n").steps(), [("turn", ("last",)), ("close", ("last",))])

    def test_licences(self):
        ahead = "goal none\nbook none\n"
        self.assertEqual(read_licence(ahead), Licence())
        self.refuse(read_licence, "", "\n", "goal none\n", "book none\n", "book none\ngoal none\n", "goal none\ngoal none\n", ahead + ahead, ahead[:-1], "goal\nbook none\n",
                    "goal some\nbook none\n", "goal none none\nbook none\n", "goal any\nbook\n", "goal none\n\nbook none\n", "goal none book none\n")
        bad = ["bar name", "bar name H", "bar name h h", "bar", "bar h", "bar a = b & b = c", "bar name h\nbar name h", "bar name k\nbar name h", "bar ? ~ ?\nbar ? ~ ?",
               "bar ? < ?\nbar ? = ?", "bar ? ~ ?\nbar name h", "out goal 0\nbar name h", "out goal 0\nbar ? ~ ?", "out goal 0\ncall goal 0", "out goal 1\nout goal 0",
               "out goal 0\nout book 0", "out goal 0\nout goal 0", "out goal", "out goal 01", "out goal -1", "out goal " + TEN, "out 0", "out home 0", "out goal 0 0",
               "put goal 0", "outs goal 0", "out goal 10\nout goal 2", "goal any", "book none", "turn goal 0\npart goal 0", "part goal 0\nout goal 0"]
        self.refuse(read_licence, *[ahead + text + "\n" for text in bad])
        self.refuse(read_licence, *[text + "\n" + ahead for text in ("bar name h", "out goal 0")], "goal none\nbar name h\nbook none\n")
        told = read_licence("goal any\nbook front\nbar name name\nbar name ~ name\nout goal 2\nout goal 10\n")
        self.assertEqual(told, Licence(goal="any", book="front", names=["name"], patterns=[("", "name", "name")], out=[("goal", 10), ("goal", 2)]))
        self.assertIs(type(read_start("aim a = b\n")), Start)
