"""Readers: what has a text.

What is called `.._in` takes the words of a text, or its lines, and returns what
they may tell, or None; it takes more than what is written as it is to be. What
it returns counts only if just this text is shown for it.
"""

from scriptpicks.atoms import is_atom, is_pattern, is_row
from scriptpicks.edits import is_edit
from scriptpicks.errors import BadStep, NoText, Wrong
from scriptpicks.licences import SORTS, Licence
from scriptpicks.notation import (
    show_atom, show_edit, show_edits, show_licence, show_pattern, show_pick, show_row, show_script, show_start,
    show_step)
from scriptpicks.picks import is_pick
from scriptpicks.scripts import Script
from scriptpicks.starts import Start
from scriptpicks.steps import NAMING, is_step
from scriptpicks.words import HOMES

RELATIONS_READ = {"=": "eq", "<": "lt", ">": "gt", "~": ""}
MOST_DIGITS = 9
# How many words a pick takes, "book" left out.
PICK_LENGTHS = {"name": 2, "at": 2, "last": 1, "like": 4, "all": 4}


def only_if(holds, thing):
    """Return a thing if something holds for it, otherwise None."""
    return thing if holds else None


def number_in(word):
    """Return the number that a word tells, or None."""
    if not 1 <= len(word) <= MOST_DIGITS or not all(["0" <= digit <= "9" for digit in word]):
        return None
    return int(word)


def pattern_in(words):
    """Return the pattern that words tell, or None."""
    if len(words) != 3:
        return None
    left, right = ["" if word == "?" else word for word in (words[0], words[2])]
    pattern = (RELATIONS_READ.get(words[1], None), left, right)
    return only_if(is_pattern(pattern), pattern)


def atom_in(words):
    """Return the atom that words tell, or None."""
    pattern = pattern_in(words)
    return only_if(is_atom(pattern), pattern)


def row_in(words):
    """Return the row that words tell, or None."""
    atoms = [words[1:4], words[5:]] if words[4:5] == ["&"] else [words[1:]]
    row = (words[0].removesuffix(":"), tuple([atom_in(told) for told in atoms]))
    return only_if(is_row(row), row)


def pick_in(words):
    """Return the pick that words tell, or None."""
    if words[:1] == ["book"]:
        pick = ("book", bare_pick_in(words[1:]))
    else:
        pick = bare_pick_in(words)
    return only_if(is_pick(pick), pick)


def bare_pick_in(words):
    """Return the pick without "book" that words tell, or None."""
    if words == [] or len(words) != PICK_LENGTHS.get(words[0], 0):
        return None
    kind = words[0]
    if kind == "last":
        return ("last",)
    if kind == "at":
        return ("at", number_in(words[1]))
    return (kind, words[1] if kind == "name" else pattern_in(words[1:]))


def picks_in(words):
    """Return the list of the picks, one or two, that words tell, with None for what is no pick."""
    # Where there are two, they look at the goal.
    many = sum([PICK_LENGTHS.get(word, 0) for word in words[:1]])
    if words[many:many + 1] == ["with"]:
        return [pick_in(words[:many]), pick_in(words[many + 1:])]
    return [pick_in(words)]


def step_in(words):
    """Return the step that words tell, or None."""
    kind, rest = words[0], words[1:]
    names = []
    if kind in NAMING and rest[-2:-1] == ["as"]:
        rest, names = rest[:-2], rest[-1:]
    step = tuple([kind] + picks_in(rest) + names)
    return only_if(is_step(step), step)


def edit_in(words):
    """Return the edit that words tell, or None."""
    if len(words) < 3:
        return None
    sort, rest = words[0], words[3:]
    ahead = (sort, words[1], number_in(words[2]))
    if sort == "put" and rest != []:
        edit = ahead + (row_in(rest),)
    elif sort == "more" and rest != []:
        edit = ahead + (atom_in(rest[1:]), number_in(rest[0]))
    else:
        edit = ahead + tuple(rest)
    return only_if(is_edit(edit), edit)


def start_in(lines):
    """Return the Start that lines tell, or None."""
    rows = {home: [] for home in HOMES}
    aims = []
    for words in [line.split(" ") for line in lines]:
        if words[0] in rows and len(words) > 1:
            rows[words[0]].append(row_in(words[1:]))
        else:
            aims.append(atom_in(words[1:]))
    if None in rows["goal"] + rows["book"] + aims or len(aims) != 1:
        return None
    return Start(rows["goal"], rows["book"], aims[0])


def script_in(lines):
    """Return the Script that lines tell, or None."""
    try:
        return Script([step_in(line.split(" ")) for line in lines])
    except (Wrong, BadStep):
        return None


def edits_in(lines):
    """Return the list of the edits that lines tell, or None."""
    edits = [edit_in(line.split(" ")) for line in lines]
    return only_if(None not in edits, edits)


def licence_in(lines):
    """Return the Licence that lines tell, in whatever order they stand, or None; of a home, the last line counts."""
    told = {"goal": None, "book": None, "names": [], "patterns": []}
    for sort in SORTS:
        told[sort] = []
    for words in [line.split(" ") for line in lines]:
        if words[0] in HOMES:
            told[words[0]] = words[-1]
        elif words[:2] == ["bar", "name"] and len(words) == 3:
            told["names"].append(words[2])
        elif words[0] == "bar":
            told["patterns"].append(pattern_in(words[1:]))
        elif words[0] in SORTS and len(words) == 3:
            told[words[0]].append((words[1], number_in(words[2])))
        else:
            return None
    try:
        return Licence(goal=told["goal"], book=told["book"], names=told["names"], patterns=told["patterns"],
                       out=told["out"], call=told["call"], turn=told["turn"], part=told["part"], more=told["more"])
    except Wrong:
        return None


def deed_in(words):
    """Return the deed that words tell, or None; it need not have the form of a deed."""
    kind = words[0]
    if kind == "edit":
        return (kind, edit_in(words[1:]))
    if kind == "step" and len(words) > 2:
        return (kind, number_in(words[1]), step_in(words[2:]))
    if kind == "pick" and len(words) > 2:
        return (kind, number_in(words[1]), number_in(words[2]), pick_in(words[3:]))
    if kind in ("cut", "swap") and len(words) == 2:
        return (kind, number_in(words[1]))
    return None


def parts_of(text, sign):
    """Return the list of the parts of a text between signs, or raise NoText for any other value."""
    if not isinstance(text, str):
        raise NoText()
    return text.split(sign)


def lines_of(text):
    """Return the list of the lines of a text, or raise NoText if a line feed does not stand behind each."""
    lines = parts_of(text, "\n")
    if lines[-1] != "":
        raise NoText()
    return lines[:-1]


def just(text, thing, show):
    """Return a thing if it has just this text, as show tells, or raise NoText."""
    if thing is None or show(thing) != text:
        raise NoText()
    return thing


def read_atom(text):
    """Return the atom with this text."""
    return just(text, atom_in(parts_of(text, " ")), show_atom)


def read_pattern(text):
    """Return the pattern with this text."""
    return just(text, pattern_in(parts_of(text, " ")), show_pattern)


def read_row(text):
    """Return the row with this text."""
    return just(text, row_in(parts_of(text, " ")), show_row)


def read_pick(text):
    """Return the pick with this text."""
    return just(text, pick_in(parts_of(text, " ")), show_pick)


def read_step(text):
    """Return the step with this text."""
    return just(text, step_in(parts_of(text, " ")), show_step)


def read_edit(text):
    """Return the edit with this text."""
    return just(text, edit_in(parts_of(text, " ")), show_edit)


def read_start(text):
    """Return the Start with this text."""
    return just(text, start_in(lines_of(text)), show_start)


def read_script(text):
    """Return the Script with this text."""
    return just(text, script_in(lines_of(text)), show_script)


def read_edits(text):
    """Return the list of the edits with this text."""
    return just(text, edits_in(lines_of(text)), show_edits)


def read_licence(text):
    """Return the Licence with this text."""
    return just(text, licence_in(lines_of(text)), show_licence)
