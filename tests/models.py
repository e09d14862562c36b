"""Plain models of the document's edits and held runs, with which the tests compare what the package tells."""

import itertools

from scriptpicks.errors import NotPicked, Stuck
from scriptpicks.atoms import chained, fits_fact, turned
from scriptpicks.picks import bare, home_of, is_single, pattern_of, picked
from scriptpicks.runs import meant, owned, picks
from scriptpicks.scripts import Script
from scriptpicks.steps import done, picks_of


class Row:
    """A row of an edited start: its name, its atoms, their roots, and of which element it comes."""

    def __init__(self, name, atoms, roots, element):
        self.name, self.atoms, self.roots, self.element = name, list(atoms), list(roots), element

    def told(self):
        return self.name, tuple(self.atoms), tuple(self.roots)


class Model:
    """An edited start; `do` returns whether it could do an edit."""

    def __init__(self, start):
        self.start, self.many = start, 0
        self.homes = {home: [Row(name, fact, [(home, k, b) for b in range(len(fact))], k)
                             for k, (name, fact) in enumerate(start.rows(home))] for home in ("goal", "book")}

    def do(self, edit):
        rows, at = self.homes[edit[1]], edit[2]
        if edit[0] == "put":
            if at > len(rows):
                return False
            name, fact = edit[3]
            rows.insert(at, Row(name, fact, [("new", self.many, b) for b in range(len(fact))], ("new", self.many)))
        elif at >= len(rows) or not isinstance(rows[at].element, int):
            return False
        elif not self.change(rows, rows[at], edit):
            return False
        self.many += 1
        return True

    def change(self, rows, row, edit):
        at = rows.index(row)
        if edit[0] == "out":
            rows.remove(row)
        elif edit[0] == "call":
            row.name = edit[3]
        elif edit[0] == "turn":
            row.atoms = [turned(atom) for atom in row.atoms]
        elif edit[0] == "part":
            if len(row.atoms) < 2 or any(root[0] == "new" for root in row.roots):
                return False
            rows[at:at + 1] = [Row(row.name, [row.atoms[b]], [row.roots[b]], row.element) for b in (0, 1)]
        else:
            if len(self.start.row(edit[1], row.element)[1]) != 1 or len(row.atoms) != 1:
                return False
            row.atoms.insert(edit[4], edit[3])
            row.roots.insert(edit[4], ("new", self.many, 0))
        return True

    def rows(self, home):
        return [row.told() for row in self.homes[home]]


def possible_edits(model, chance, atoms, names):
    """Return some edits, most of which can be done."""
    edits = []
    for home in ("goal", "book"):
        many = len(model.homes[home])
        atom, other = chance.choice(atoms), chance.choice(atoms)
        edits += [("put", home, at, (chance.choice(names), fact))
                  for at in range(many + 2) for fact in ((atom,), (atom, other))]
        for at in range(many + 1):
            edits += [("out", home, at), ("call", home, at, chance.choice(names)), ("turn", home, at), ("part", home, at),
                      ("part", home, at), ("more", home, at, atom, chance.randrange(2))]
    return edits


def random_edits(start, chance, atoms, names, most, can=lambda edit: True):
    """Return a list of edits that can be done one after another, and the Model behind them."""
    model, edits = Model(start), []
    for _ in range(chance.randrange(most + 1)):
        edits_now = [edit for edit in possible_edits(model, chance, atoms, names) if can(edit)]
        sort = chance.choice(sorted({edit[0] for edit in edits_now}) or [None])
        edit = chance.choice([edit for edit in edits_now if edit[0] == sort] or [None])
        if edit is not None and model.do(edit):
            edits.append(edit)
    return edits, model


def done_script(start, chance, steps, most):
    """Return a Script of some of the steps, the run of which is done."""
    found, goal = [], start.goal()
    many = chance.randrange(1, most + 1)
    for _ in range(5 * many):
        step = chance.choice(steps)
        try:
            goal = done(goal, start.book(), step, start.aim)[0]
        except (NotPicked, Stuck):
            continue
        found.append(step)
        if step[0] == "close" or len(found) == many:
            break
    return Script(found)


def holds_them(row, owners):
    return all(owner in row[2] for owner in owners)


class HeldRun:
    """The held run, as the paragraph ahead of [70] says it; its rows are tuples (name, fact, owners, roots)."""

    def __init__(self, start, script, model):
        self.start, self.script, self.meant = start, script, meant(start, script)
        self.facts = [[[goal[at][1] for at in indexes] for indexes in chosen] if step[0] == "chain" else None for
                      goal, step, chosen in zip(owned(start, script), script.steps(), picks(start, script))]
        self.book = [row + row[2:] for row in model.rows("book")]
        goal = [row + row[2:] for row in model.rows("goal")]
        self.goals, self.words, self.lost = [goal], [], None
        for index, step in enumerate(script.steps()):
            acts = self.acts(index, step, goal)
            if acts is None:
                self.lost = index
                break
            self.words.append([self.word(pick, owners, goal) for pick, owners in zip(picks_of(step), self.meant[index])])
            goal = self.behind(index, step, goal, acts)
            self.goals.append(goal)

    def looked_at(self, pick, goal):
        return self.book if home_of(pick) == "book" else goal

    def acts(self, index, step, goal):
        """Return the lists of the rows on which the picks act, or None if the step is lost."""
        result = []
        for number, (pick, owners) in enumerate(zip(picks_of(step), self.meant[index])):
            rows = self.looked_at(pick, goal)
            if is_single(pick):
                acts = [at for at, row in enumerate(rows) if holds_them(row, owners)]
                if not acts:
                    return None
                if step[0] == "chain" and rows[acts[0]][1] != self.facts[index][number][0]:
                    return None
                if step[0] == "close" and self.start.aim not in rows[acts[0]][1]:
                    return None
            else:
                there = list(itertools.chain(*[row[2] for row in rows]))
                if any(owner not in there for owner in owners):
                    return None
                acts = [at for at, row in enumerate(rows)
                        if any(owner in row[2] for owner in owners) or fits_fact(pattern_of(pick), row[1])]
            result.append(acts)
        return result

    def word(self, pick, owners, goal):
        rows = self.looked_at(pick, goal)
        found = [rows[at] for at in picked(bare(pick), [row[:2] for row in rows])]
        if is_single(pick):
            reached = any(holds_them(row, owners) for row in found)
        else:
            reached = all(any(owner in row[2] for row in found) for owner in owners)
        return None if reached else "other" if found else "none"

    def behind(self, index, step, goal, acts):
        kind, behind = step[0], []
        if kind == "close":
            return goal
        if kind == "chain":
            one, other = goal[acts[0][0]], goal[acts[1][0]]
            atom, root = chained(one[1][0], other[1][0]), ("made", one[3][0], other[3][0])
            return goal + [(step[3], (atom,), (("made", index),), (root,))]
        if kind == "copy":
            rows = self.looked_at(step[1], goal)
            return goal + [(step[2], rows[at][1], tuple(("copy", index, owner) for owner in rows[at][2]), rows[at][3])
                           for at in acts[0]]
        for at, row in enumerate(goal):
            name, fact, owners, roots = row
            if at not in acts[0]:
                behind.append(row)
            elif kind == "turn":
                behind.append((name, tuple(turned(atom) for atom in fact), owners, roots))
            elif kind == "call":
                behind.append((step[2], fact, owners, roots))
            elif kind == "part":
                behind += [(name, (fact[b],), (owners[b],), (roots[b],)) for b in range(len(fact))]
        return behind

    def misses(self):
        return [index for index, words in enumerate(self.words) if any(words)]

    def misses_beside_at(self):
        """Return the steps that miss by a pick that is no "at"."""
        return [index for index, words in enumerate(self.words)
                if any(word and bare(pick)[0] != "at" for word, pick in zip(words, picks_of(self.script[index])))]

    def outcome(self, pins=()):
        for index, words in enumerate(self.words):
            if any(words) and index not in pins:
                return index, next(word for word in words if word)
        return None if self.lost is None else (self.lost, "lost")
