"""Books: a start and a script that are changed by deeds, back and again."""

from scriptpicks.edits import edited, is_edit
from scriptpicks.errors import BadEdit, BadStep, Full, NoDeed, NoEntry, NoStep, Nothing, Refused, Wrong
from scriptpicks.picks import is_pick
from scriptpicks.runs import ends, is_done
from scriptpicks.scripts import Script
from scriptpicks.steps import is_step, picks_of, with_pick
from scriptpicks.words import is_index, is_integer

MOST_DEEDS = 60
# How many parts a deed of each kind has.
LENGTHS = {"step": 3, "cut": 2, "swap": 2, "pick": 4, "edit": 2}


def is_number(thing):
    """Return whether a value is an integer from 0 on."""
    return is_integer(thing) and thing >= 0


def is_deed(thing):
    """Return whether a value has the form of a deed."""
    if not isinstance(thing, tuple) or thing == () or not isinstance(thing[0], str):
        return False
    kind = thing[0]
    if len(thing) != LENGTHS.get(kind, 0):
        return False
    if kind == "edit":
        return is_edit(thing[1])
    if kind == "step":
        return is_number(thing[1]) and is_step(thing[2])
    if kind == "pick":
        return is_number(thing[1]) and is_number(thing[2]) and is_pick(thing[3])
    return is_number(thing[1])


def with_step_in(script, index, step):
    """Return the Script with a step ahead of the one with an index, or behind all."""
    if index > len(script):
        raise NoStep(index)
    return Script(script.steps()[:index] + [step] + script.steps()[index:])


def script_behind(script, deed):
    """Return the Script behind a deed that is no edit, or raise NoStep, BadStep or Wrong."""
    kind, index = deed[:2]
    if kind == "step":
        return with_step_in(script, index, deed[2])
    if kind == "cut":
        return script.without(index)
    if kind == "swap":
        return script.swapped(index)
    number, pick = deed[2:]
    step = script[index]
    if number >= len(picks_of(step)):
        raise Wrong(1)
    return script.with_step(index, with_pick(step, number, pick))


def behind(start, script, deed):
    """Return the tuple (start, script) behind a deed, or raise Refused."""
    try:
        if deed[0] == "edit":
            start = edited(start, [deed[1]]).start()
        else:
            script = script_behind(script, deed)
    except (BadEdit, BadStep, NoStep, Wrong):
        raise Refused(deed) from None
    if not is_done(start, script):
        raise Refused(deed)
    return (start, script)


class Book:
    """A start and a script; deeds are done to them one by one, and undone."""

    def __init__(self, start, script):
        # The run of the start has to be done: otherwise this raises Stopped.
        ends(start, script)
        # These lists are replaced, never changed: so copies may share them.
        self.stands = [(start, script)]
        self.deeds_done = []
        self.deeds_undone = []

    def __eq__(self, other):
        return isinstance(other, Book) and self.stands[0] == other.stands[0] and self.deeds_done == other.deeds_done

    def __len__(self):
        return len(self.deeds_done)

    def after(self, deed):
        """Return the tuple (start, script) behind a deed, or raise what `do` raises."""
        if not is_deed(deed):
            raise NoDeed()
        if len(self.deeds_done) >= MOST_DEEDS:
            raise Full(MOST_DEEDS)
        start, script = self.stands[-1]
        return behind(start, script, deed)

    def stand_behind(self, deed):
        """Let a deed stand."""
        stand = self.after(deed)
        self.stands = self.stands + [stand]
        self.deeds_done = self.deeds_done + [deed]

    def do(self, deed):
        """Do a deed."""
        self.stand_behind(deed)
        self.deeds_undone = []

    def tried(self, deed):
        """Return whether `do` would do a deed."""
        try:
            self.after(deed)
        except (NoDeed, Full, Refused):
            return False
        return True

    def back(self):
        """Undo the last deed that stands, and return it."""
        if self.deeds_done == []:
            raise Nothing()
        deed = self.deeds_done[-1]
        self.stands = self.stands[:-1]
        self.deeds_done = self.deeds_done[:-1]
        self.deeds_undone = self.deeds_undone + [deed]
        return deed

    def again(self):
        """Do the deed again that was undone last, and return it."""
        if self.deeds_undone == []:
            raise Nothing()
        deed = self.deeds_undone[-1]
        self.stand_behind(deed)
        self.deeds_undone = self.deeds_undone[:-1]
        return deed

    def start(self):
        """Return the Start that stands."""
        return self.stands[-1][0]

    def script(self):
        """Return the Script that stands."""
        return self.stands[-1][1]

    def log(self):
        """Return the list of the deeds that stand."""
        return list(self.deeds_done)

    def past(self, many):
        """Return the tuple (start, script) behind the first deeds of the log, so many."""
        if not is_index(many, len(self.stands)):
            raise NoEntry(many)
        return self.stands[many]

    def copied(self):
        """Return a Book that stands there, too, with what can be done again, and goes on by itself."""
        start, script = self.stands[0]
        other = Book(start, script)
        other.stands, other.deeds_done, other.deeds_undone = self.stands, self.deeds_done, self.deeds_undone
        return other
