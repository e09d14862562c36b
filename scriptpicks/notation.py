"""Notation: the texts of atoms, patterns, rows, picks, steps, edits, starts, scripts, lists of edits and licences."""

from scriptpicks.licences import SORTS
from scriptpicks.steps import NAMING, picks_of
from scriptpicks.words import HOMES

SIGNS = {"eq": "=", "lt": "<", "gt": ">", "": "~"}


def show_part(part):
    """Return the text of a name, or of an empty part of a pattern."""
    return "?" if part == "" else part


def show_pattern(pattern):
    """Return the text of a pattern."""
    relation, left, right = pattern
    return f"{show_part(left)} {SIGNS[relation]} {show_part(right)}"


def show_atom(atom):
    """Return the text of an atom."""
    relation, left, right = atom
    return f"{left} {SIGNS[relation]} {right}"


def show_row(row):
    """Return the text of a row."""
    name, fact = row
    return f"{name}: " + " & ".join([show_atom(atom) for atom in fact])


def show_pick(pick):
    """Return the text of a pick."""
    kind = pick[0]
    if kind == "book":
        return "book " + show_pick(pick[1])
    if kind == "last":
        return kind
    if kind in ("name", "at"):
        return f"{kind} {pick[1]}"
    return f"{kind} {show_pattern(pick[1])}"


def show_step(step):
    """Return the text of a step."""
    text = step[0] + " " + " with ".join([show_pick(pick) for pick in picks_of(step)])
    return f"{text} as {step[-1]}" if step[0] in NAMING else text


def show_edit(edit):
    """Return the text of an edit."""
    sort, home, at = edit[:3]
    text = f"{sort} {home} {at}"
    if sort == "put":
        return f"{text} {show_row(edit[3])}"
    if sort == "call":
        return f"{text} {edit[3]}"
    if sort == "more":
        return f"{text} {edit[4]} {show_atom(edit[3])}"
    return text


def show_lines(lines):
    """Return the text of lines: a line feed stands behind each."""
    return "".join([line + "\n" for line in lines])


def show_start(start):
    """Return the text of a Start."""
    lines = [f"{home} {show_row(row)}" for home in HOMES for row in start.rows(home)]
    return show_lines(lines + ["aim " + show_atom(start.aim)])


def show_script(script):
    """Return the text of a Script."""
    return show_lines([show_step(step) for step in script.steps()])


def show_edits(edits):
    """Return the text of a list of edits."""
    return show_lines([show_edit(edit) for edit in edits])


def licence_lines(licence):
    """Return the list of the lines of a Licence's text."""
    lines = [f"{home} {licence.where(home)}" for home in HOMES]
    lines = lines + ["bar name " + name for name in licence.names()]
    lines = lines + ["bar " + show_pattern(pattern) for pattern in licence.patterns()]
    return lines + [f"{sort} {home} {k}" for sort in SORTS for home, k in licence.told(sort)]


def show_licence(licence):
    """Return the text of a Licence."""
    return show_lines(licence_lines(licence))


def show_deed(deed):
    """Return the line of a deed."""
    kind = deed[0]
    if kind == "edit":
        return "edit " + show_edit(deed[1])
    if kind == "step":
        return f"step {deed[1]} {show_step(deed[2])}"
    if kind == "pick":
        return f"pick {deed[1]} {deed[2]} {show_pick(deed[3])}"
    return f"{kind} {deed[1]}"
