"""Held runs: where each step acts on what it meant, wherever an edit has led it."""

from scriptpicks.acts import acted
from scriptpicks.edits import edited
from scriptpicks.picks import bare, picked
from scriptpicks.targets import held_many, held_step, rows_of, targets_of


def word_of(target, goal, book):
    """Return "none" or "other" for a pick that does not reach what it meant, and None for one that does."""
    rows = rows_of(target[0], goal, book)
    reached = [rows[at] for at in picked(bare(target[0]), rows)]
    if held_many(target[2], reached) == len(target[1]):
        return None
    return "none" if reached == [] else "other"


def first_word(words):
    """Return the first of the words that is not None, or None."""
    for word in words:
        if word is not None:
            return word
    return None


def with_owners(rows):
    """Return marked rows for the rows of a Draft: there each atom's root is its owner."""
    return [(name, fact, roots, roots) for name, fact, roots in rows]


class Held:
    """What the steps of a script meant in the run of a start, and what becomes of it under edits."""

    def __init__(self, start, script):
        self.held_start = start
        self.held_script = script
        self.all_targets = targets_of(start, script)

    def start(self):
        """Return the Start that the Held was made of."""
        return self.held_start

    def script(self):
        """Return the Script that the Held was made of."""
        return self.held_script

    def targets(self):
        """Return the list, for each step, of the lists of the targets of its picks."""
        return [list(targets) for targets in self.all_targets]

    def meant(self):
        """Return the list, for each step, of the lists, for each pick, of the owners that it meant."""
        return [[list(target[1]) for target in targets] for targets in self.all_targets]

    def run(self, edits):
        """Return the goals of the held run, and the list of the words of its steps, which ends with "lost" if one is.

        The word of a step that is not lost is that of the first pick that does
        not reach what it meant, or None.
        """
        draft = edited(self.held_start, edits)
        goal, book = with_owners(draft.rows("goal")), with_owners(draft.rows("book"))
        goals, words = [goal], []
        for index, step in enumerate(self.held_script.steps()):
            targets = self.all_targets[index]
            chosen = held_step(step, targets, goal, book, self.held_start.aim)
            if chosen is None:
                return goals, words + ["lost"]
            words.append(first_word([word_of(target, goal, book) for target in targets]))
            goal = acted(goal, book, step, chosen, index)
            goals.append(goal)
        return goals, words

    def misses(self, edits):
        """Return the ascending list of the steps that miss."""
        return [index for index, word in enumerate(self.run(edits)[1]) if word in ("none", "other")]

    def lost(self, edits):
        """Return the first step that is lost, or None."""
        words = self.run(edits)[1]
        return words.index("lost") if "lost" in words else None

    def goals(self, edits):
        """Return the list of the goals of the held run, as lists of tuples (name, fact, owners, roots)."""
        return self.run(edits)[0]

    def outcome(self, edits, *, pins=()):
        """Return the tuple (step, word) for the first step that is lost, or that misses and has no pin, or None."""
        for index, word in enumerate(self.run(edits)[1]):
            if word == "lost" or (word is not None and index not in pins):
                return (index, word)
        return None
