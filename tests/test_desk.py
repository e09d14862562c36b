import random
import unittest

from scriptpicks.book import Book
from scriptpicks.desk import Desk
from scriptpicks.edits import Draft
from scriptpicks.errors import BadEdit, Full, HasPlace, NoCommand, NoStep, Nothing, PickError, Refused, Stopped
from scriptpicks.held import Held
from scriptpicks.licences import Licence
from scriptpicks.notation import show_edit, show_licence, show_pick, show_script, show_step
from scriptpicks.pins import loose
from scriptpicks.readers import read_edit, read_licence, read_pick, read_script, read_step
from scriptpicks.scripts import Script
from scriptpicks.starts import Start
from scriptpicks.strays import fates
from scriptpicks.swaps import may_swap
from tests.test_book import SHORT
from tests.test_book import seen as seen_in_book
from tests.test_readers import bent
from tests.test_runs import H, K, LAST, SCRIPT, START, THREE
from tests.test_strays import ATOM
from tests.trials import Trials, Universe
from tests.values import odd_values

PLAIN = Script([("turn", H), ("turn", K), ("call", H, "m")])
LINES = ["step 1 turn last", "step 0 chain name h with name k as t", "cut 0", "swap 0", "pick 1 0 last", "pick 0 0 like a = ?", "edit turn goal 0",
         "edit put goal 3 h: a = b & b < c", "edit more goal 0 1 a ~ b", "back", "again", "let goal any", "let bar name h", "let bar ? ~ ?", "let out goal 10",
         "bound", "try out goal 1", "try put book 0 h: a = b", "sure 0", "loose", "may 1", "show"]


def seen(desk):
    return seen_in_book(desk.book()), show_licence(desk.licence())


class DeskCase(unittest.TestCase):
    def refused(self, desk, line, error, fields):
        """Check that a line raises an error, and that nothing changes."""
        ahead = seen(desk)
        with self.assertRaises(PickError) as caught:
            desk.execute(line)
        self.assertIs(type(caught.exception), error)
        self.assertEqual(vars(caught.exception), fields)
        self.assertEqual(seen(desk), ahead)

    def told(self, desk, *lines):
        return [desk.execute(line) for line in lines]


class LinesTest(DeskCase):
    def test_the_example(self):
        desk = Desk(START, SCRIPT)
        self.assertEqual(self.told(desk, "let goal back", "sure 0", "try out goal 1", "loose"), ["done", "misses", "0 lost", "0 1"])
        self.assertEqual(self.told(desk, "sure 2", "try turn goal 2", "bound"), ["sure", "kept", "goal back\nbook none"])

    def test_a_new_desk(self):
        desk = Desk(START, SCRIPT)
        self.assertEqual((desk.book(), desk.licence()), (Book(START, SCRIPT), Licence()))
        with self.assertRaises(Stopped) as caught:
            Desk(START, Script([("turn", K), ("turn", ("name", "q"))]))
        self.assertEqual((type(caught.exception), vars(caught.exception)), (Stopped, {"index": 1}))

    def test_deeds(self):
        desk, book = Desk(START, SHORT), Book(START, SHORT)
        for line, deed in [("step 3 turn last", ("step", 3, ("turn", LAST))), ("step 0 copy book last as n", ("step", 0, ("copy", ("book", LAST), "n"))),
                           ("swap 1", ("swap", 1)), ("cut 4", ("cut", 4)), ("pick 3 0 at 1", ("pick", 3, 0, ("at", 1))),
                           ("pick 0 0 book all ? ~ ?", ("pick", 0, 0, ("book", ("all", ("", "", ""))))),
                           ("edit put goal 0 z: x = y", ("edit", ("put", "goal", 0, ("z", (ATOM,))))), ("edit more goal 0 1 x = y", ("edit", ("more", "goal", 0, ATOM, 1)))]:
            self.assertEqual(desk.execute(line), "done")
            book.do(deed)
            self.assertEqual(seen_in_book(desk.book()), seen_in_book(book))
        lines = ["edit more goal 0 1 x = y", "edit put goal 0 z: x = y", "pick 0 0 book all ? ~ ?", "pick 3 0 at 1", "cut 4", "swap 1", "step 0 copy book last as n",
                 "step 3 turn last"]
        self.assertEqual(self.told(desk, *["back"] * 8), lines)
        self.refused(desk, "back", Nothing, {})
        self.assertEqual(self.told(desk, *["again"] * 8), lines[::-1])
        self.refused(desk, "again", Nothing, {})
        self.assertEqual(seen_in_book(desk.book()), seen_in_book(book))

    def test_what_a_book_raises(self):
        desk = Desk(START, SHORT)
        for line, deed in [("step 4 turn last", ("step", 4, ("turn", LAST))), ("cut 3", ("cut", 3)), ("swap 2", ("swap", 2)), ("pick 0 1 last", ("pick", 0, 1, LAST)),
                           ("pick 0 0 book last", ("pick", 0, 0, ("book", LAST))), ("edit out goal 1", ("edit", ("out", "goal", 1))),
                           ("edit out goal 999999999", ("edit", ("out", "goal", 999999999))), ("step 0 close last", ("step", 0, ("close", LAST)))]:
            self.refused(desk, line, Refused, {"deed": deed})
        for _ in range(60):
            self.assertEqual(desk.execute("swap 0"), "done")
        self.refused(desk, "cut 9", Full, {"limit": 60})
        self.assertEqual(self.told(desk, "back", "again", "show"), ["swap 0", "swap 0", show_script(SHORT)[:-1]])

    def test_the_licence(self):
        desk = Desk(START, SCRIPT)
        self.assertEqual(desk.execute("bound"), "goal none\nbook none")
        lines = ["goal any", "bar name k", "turn goal 10", "bar ? < ?", "bar name h", "book front", "turn goal 2", "goal back", "bar ? ~ ?", "call book 0", "bar name k", "turn goal 2"]
        self.assertEqual(self.told(desk, *["let " + line for line in lines]), ["done"] * 12)
        text = "goal back\nbook front\nbar name h\nbar name k\nbar ? ~ ?\nbar ? < ?\ncall book 0\nturn goal 2\nturn goal 10"
        self.assertEqual(desk.execute("bound"), text)
        self.assertEqual(desk.licence(), read_licence(text + "\n"))
        self.assertEqual(self.told(desk, "let goal none", "let book none"), ["done", "done"])
        self.assertEqual(desk.licence(), Licence(names=["h", "k"], patterns=[("", "", ""), ("lt", "", "")], call=[("book", 0)], turn=[("goal", 2), ("goal", 10)]))
        # The names of homes and sorts, and "bar", as names.
        self.assertEqual(self.told(desk, "let bar name goal", "let bar goal = book", "let bar name ~ name", "let goal front"), ["done"] * 4)
        self.assertEqual(desk.execute("bound").split("\n")[:6], ["goal front", "book none", "bar name goal", "bar name h", "bar name k", "bar ? ~ ?"])
        self.assertIn("bar goal = book", desk.execute("bound").split("\n"))

    def test_the_licence_stays_when_the_start_is_edited(self):
        desk = Desk(START, SCRIPT)
        self.told(desk, "let out goal 2", "edit out goal 2")
        self.assertEqual(desk.licence(), Licence(out=[("goal", 2)]))
        self.assertEqual(self.told(desk, "back", "bound"), ["edit out goal 2", "goal none\nbook none\nout goal 2"])

    def test_try(self):
        desk = Desk(START, SCRIPT)
        for line, expected in [("try call goal 1 m", "0 none"), ("try put goal 3 k: x = y", "0 other"), ("try put goal 0 n: x = y", "1 other"),
                               ("try out goal 0", "1 lost"), ("try out goal 2", "kept"), ("try put book 2 k: x = y", "kept")]:
            self.assertEqual(desk.execute(line), expected)
        for line in ["try out goal 3", "try put goal 4 h: a = b", "try part goal 0", "try more goal 1 0 a = b", "try out book 999999999"]:
            self.refused(desk, line, BadEdit, {"index": 0})
        self.assertEqual(len(desk.book()), 0)

    def test_sure_loose_and_may(self):
        desk = Desk(START, SHORT)
        self.assertEqual(self.told(desk, "sure 0", "loose"), ["sure", "none"])
        self.told(desk, "let goal back", "let out goal 2")
        self.assertEqual(self.told(desk, "sure 0", "sure 1", "sure 2", "loose"), ["lost misses", "misses", "misses", "0 1 2"])
        for line, index in [("sure 3", 3), ("sure 999999999", 999999999), ("may 3", 3), ("may 2", 3), ("may 999999999", 999999999)]:
            self.refused(desk, line, NoStep, {"index": index})
        desk = Desk(START, PLAIN)
        self.assertEqual(self.told(desk, "may 0", "may 1"), ["yes", "yes"])
        self.assertEqual(self.told(Desk(START, SHORT), "may 0", "may 1"), ["yes", "yes"])
        desk = Desk(START, Script([("call", H, "m"), ("turn", ("name", "m")), ("turn", ("at", 0))]))
        self.refused(desk, "may 0", HasPlace, {"index": 2})
        self.refused(desk, "may 2", NoStep, {"index": 3})
        self.assertEqual(self.told(desk, "cut 2", "may 0"), ["done", "no"])
        closing = Desk(START.with_aim(THREE[1][0]), Script([("turn", K), ("close", LAST)]))
        self.assertEqual(closing.execute("may 0"), "no")

    def test_show(self):
        desk = Desk(START, Script([]))
        self.assertEqual(self.told(desk, "show", "loose", "step 0 turn last", "show", "step 1 call name h as m", "show"),
                         ["", "none", "done", "turn last", "done", "turn last\ncall name h as m"])
        self.assertEqual(read_script(desk.execute("show") + "\n"), desk.book().script())


class NoCommandTest(DeskCase):
    def test_what_is_no_line(self):
        desk = Desk(START, SCRIPT)
        bad = ["", " ", "backs", "Back", "back ", " back", "back 1", "again 0", "bound 1", "loose 0", "loose ", "show ", "show 0", "back\n", "show\nback", "sure", "sure ", "sure None", "may None",
               "sure 00", "sure -1", "sure 1234567890", "sure 1 ", "sure one", "sure 0 0", "may", "may ", "may 01", "may 1 1", "may -1", "cut", "cut ", "cut 00", "cut 0 0",
               "cut -1", "cut 1234567890", "swap", "swap x", "swap 0 1", "step", "step 0", "step 0 ", "step turn last", "step 00 turn last", "step 0 turn", "step 0 last",
               "step 0 turn last last", "step  0 turn last", "pick 0", "pick 0 0", "pick 0 0 ", "pick 0 last", "pick 00 0 last", "pick 0 01 last", "pick 0 0 h", "pick -1 0 last",
               "edit", "edit ", "edit out", "edit out goal", "edit out goal 01", "edit out home 0", "edit out goal 1 1", "edit edit out goal 0", "try", "try ", "try out",
               "try out goal 01", "try edit out goal 0", "try turn last", "let", "let ", "let goal", "let goal some", "let goal any ", "let goal  any", "let goal any any",
               "let bar", "let bar name", "let bar name H", "let bar h", "let bar a ~", "let out goal", "let out goal 01", "let out goal 1234567890", "let put goal 0",
               "let out home 0", "let goal any\nbook any", "let goal any\n", "let let goal any", "goal any", "bar name h", "turn last", "out goal 0", "do cut 0", "x" * 3000,
               "step " * 1000, "book " * 1000, "cut " + "9" * 5000]
        for line in bad + odd_values():
            with self.subTest(line=repr(line)[:60]):
                self.refused(desk, line, NoCommand, {})

    def test_lines_bent(self):
        """A line with one sign more, less or another is another line, or none: then nothing has changed."""
        many = 0
        for line in LINES:
            for other in bent(line):
                desk = Desk(START, SHORT)
                desk.execute("swap 0")
                ahead = seen(desk)
                try:
                    desk.execute(other)
                except NoCommand:
                    self.assertEqual(seen(desk), ahead)
                except PickError:
                    self.assertEqual(seen(desk), ahead)
                    many += 1
                else:
                    many += 1
                    self.assertIn(other.split(" ")[0], {line.split(" ")[0] for line in LINES})
                    self.assertNotIn("\n", other)
                    self.assertNotIn("  ", other)
        self.assertGreater(many, 100)

    def test_ahead_of_all_else(self):
        desk = Desk(START, SCRIPT)
        for _ in range(60):
            desk.execute("edit turn goal 2")
        self.refused(desk, "cut 00", NoCommand, {})
        self.refused(desk, "cut 0", Full, {"limit": 60})
        self.refused(desk, "sure 09", NoCommand, {})


class ObjectsTest(DeskCase):
    def test_the_book_is_a_copy(self):
        desk = Desk(START, SHORT)
        self.told(desk, "swap 0", "cut 2", "back")
        book = desk.book()
        self.assertEqual(book.again(), ("cut", 2))
        book.back()
        book.do(("cut", 0))
        self.assertEqual(len(desk.book()), 1)
        self.assertEqual(desk.execute("again"), "cut 2")
        self.assertEqual(len(book), 2)

    def test_the_licence_does_not_change(self):
        desk = Desk(START, SHORT)
        licence = desk.licence()
        desk.execute("let goal any")
        self.assertEqual((licence, desk.licence()), (Licence(), Licence(goal="any")))

    def test_against_a_book_and_a_licence(self):
        chance = random.Random(171)
        trials, words = Trials(chance), {}
        for _ in range(25):
            trials.renew()
            start = trials.start(3, 2)
            script = trials.script(start, 4)
            desk, book, licence = Desk(start, script), Book(start, script), Licence()
            for _ in range(25):
                line = self.some_line(chance, trials, book)
                word = line.split(" ")[0]
                expected = self.model(book, licence, line)
                if isinstance(expected, PickError):
                    self.refused(desk, line, type(expected), vars(expected))
                else:
                    self.assertEqual(desk.execute(line), expected)
                    if word == "let":
                        licence = with_line(licence, line[4:])
                    words[word] = words.get(word, 0) + 1
                self.assertEqual((seen_in_book(desk.book()), desk.licence()), (seen_in_book(book), licence))
        self.assertEqual(len(words), 14)

    def some_line(self, chance, trials, book):
        index = chance.randrange(len(book.script()) + 1)
        licence = trials.licence(book.start(), ["h", "k", "m"], 0.5)
        wide = Licence(goal="any", book="any", **{sort: [(home, k) for home in ("goal", "book") for k in range(9)] for sort in ("out", "turn", "part", "call", "more")})
        edits = Universe(chance, [book.script()], wide, book.start().aim, 2).edits(Draft(book.start()), wide) + [("out", "goal", 7)]
        edit = show_edit(chance.choice(edits))
        word = chance.choice(["step", "cut", "swap", "pick", "edit", "edit", "back", "again", "let", "let", "let", "bound", "try", "sure", "loose", "may", "show"])
        rest = {"step": f"{index} {show_step(trials.step())}", "pick": f"{index} {chance.randrange(2)} {show_pick(trials.pick())}", "edit": edit, "try": edit,
                "let": chance.choice(show_licence(licence).split("\n")[:-1])}.get(word, str(index))
        return word if word in ("back", "again", "bound", "loose", "show") else word + " " + rest

    def model(self, book, licence, line):
        """Return what a line is to tell, or the error; the Book is changed."""
        word, _, rest = line.partition(" ")
        held = Held(book.start(), book.script())
        try:
            if word == "back":
                return line_of(book.back())
            if word == "again":
                return line_of(book.again())
            if word == "try":
                outcome = held.outcome([read_edit(rest)])
                return "kept" if outcome is None else f"{outcome[0]} {outcome[1]}"
            if word == "sure":
                if int(rest) >= len(book.script()):
                    return NoStep(int(rest))
                return " ".join(fates(held, licence)[int(rest)]) or "sure"
            if word == "may":
                return "yes" if may_swap(held, licence, int(rest)) else "no"
            if word in ("let", "bound", "loose", "show"):
                return {"let": "done", "bound": show_licence(licence)[:-1], "show": show_script(book.script())[:-1],
                        "loose": " ".join(map(str, loose(held, licence))) or "none"}[word]
            book.do(deed_of(word, rest))
            return "done"
        except PickError as error:
            return error


def deed_of(word, rest):
    """Return the deed of a line."""
    if word == "edit":
        return ("edit", read_edit(rest))
    parts = rest.split(" ")
    if word == "step":
        return ("step", int(parts[0]), read_step(" ".join(parts[1:])))
    if word == "pick":
        return ("pick", int(parts[0]), int(parts[1]), read_pick(" ".join(parts[2:])))
    return (word, int(rest))


def line_of(deed):
    """Return the line of a deed."""
    told = {"step": show_step, "pick": show_pick, "edit": show_edit}.get(deed[0], str)
    return " ".join([deed[0]] + [str(number) for number in deed[1:-1]] + [told(deed[-1])])


def with_line(licence, line):
    """Return the Licence with a line of a licence's text, as the document says it."""
    lines = show_licence(licence).split("\n")[:-1]
    if line.split(" ")[0] in ("goal", "book"):
        lines = [line if other.split(" ")[0] == line.split(" ")[0] else other for other in lines]
    elif line not in lines:
        lines.append(line)
    names = sorted(other for other in lines[2:] if other.startswith("bar name ") and other.count(" ") == 2)
    rest = [other for other in lines[2:] if other not in names]
    told = [read_licence("goal none\nbook none\n" + other + "\n") for other in rest]
    patterns = [pattern for other in told for pattern in other.patterns()]
    rows = {sort: [row for other in told for row in other.told(sort)] for sort in ("out", "call", "turn", "part", "more")}
    return Licence(goal=lines[0].split(" ")[1], book=lines[1].split(" ")[1], names=[name.split(" ")[2] for name in names], patterns=patterns, **rows)
