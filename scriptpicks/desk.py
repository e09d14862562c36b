"""Desks: books and licences that are worked on by lines of text."""

from scriptpicks.book import Book, is_deed
from scriptpicks.errors import NoCommand, NoText
from scriptpicks.held import Held
from scriptpicks.licences import Licence
from scriptpicks.notation import licence_lines, show_deed, show_licence, show_script
from scriptpicks.pins import loose
from scriptpicks.readers import deed_in, licence_in, number_in, read_edit
from scriptpicks.strays import fates
from scriptpicks.swaps import may_swap

DONE = "done"


def index_of(word):
    """Return the index that a word tells, or raise NoCommand."""
    number = number_in(word)
    if number is None or str(number) != word:
        raise NoCommand()
    return number


def edit_of(text):
    """Return the edit with this text, or raise NoCommand."""
    try:
        return read_edit(text)
    except NoText:
        raise NoCommand() from None


def deed_of(line):
    """Return the deed with this line, or raise NoCommand."""
    deed = deed_in(line.split(" "))
    if not is_deed(deed) or show_deed(deed) != line:
        raise NoCommand()
    return deed


def licence_with(licence, line):
    """Return the Licence with a line of a licence's text in its own text, or raise NoCommand for any other line."""
    # Of several lines of a home the last one counts. Every other line is added, if it is not there.
    result = licence_in([told for told in licence_lines(licence) if told != line] + [line])
    if result is None or line not in licence_lines(result):
        raise NoCommand()
    return result


class Desk:
    """A Book and a Licence, which are changed and asked by lines."""

    def __init__(self, start, script):
        self.kept_book = Book(start, script)
        self.kept_licence = Licence()

    def held(self):
        """Return the Held of the start and the script that stand."""
        return Held(self.kept_book.start(), self.kept_book.script())

    def execute(self, line):
        """Do what a line says, and return a text."""
        if not isinstance(line, str):
            raise NoCommand()
        word, blank, rest = line.partition(" ")
        if blank == "":
            return self.execute_word(word)
        if word == "let":
            self.kept_licence = licence_with(self.kept_licence, rest)
            return DONE
        if word == "try":
            return self.tell_outcome(edit_of(rest))
        if word == "sure":
            return self.tell_fates(index_of(rest))
        if word == "may":
            return "yes" if may_swap(self.held(), self.kept_licence, index_of(rest)) else "no"
        self.kept_book.do(deed_of(line))
        return DONE

    def execute_word(self, word):
        """Do what a line of one word says, and return a text."""
        if word == "back":
            return show_deed(self.kept_book.back())
        if word == "again":
            return show_deed(self.kept_book.again())
        if word == "bound":
            return show_licence(self.kept_licence).removesuffix("\n")
        if word == "show":
            return show_script(self.kept_book.script()).removesuffix("\n")
        if word == "loose":
            return " ".join([str(step) for step in loose(self.held(), self.kept_licence)]) or "none"
        raise NoCommand()

    def tell_outcome(self, edit):
        """Return the text for the outcome of an edit."""
        outcome = self.held().outcome([edit])
        return "kept" if outcome is None else f"{outcome[0]} {outcome[1]}"

    def tell_fates(self, index):
        """Return the text for what can come to a step first, or raise NoStep."""
        self.kept_book.script().check_index(index)
        return " ".join(fates(self.held(), self.kept_licence)[index]) or "sure"

    def book(self):
        """Return a copy of the Book."""
        return self.kept_book.copied()

    def licence(self):
        """Return the Licence."""
        return self.kept_licence
