"""Runs of scripts: the goals, what the picks picked, the owners and roots of the atoms."""

from scriptpicks.acts import acted
from scriptpicks.errors import NotPicked, Stopped, Stuck
from scriptpicks.marks import marked, unmarked
from scriptpicks.picks import home_of
from scriptpicks.steps import done, picks_of


def done_in_run(goal, start, step, index):
    """Return what `done` returns for a step of a run, or raise Stopped with its index."""
    try:
        return done(goal, start.book(), step, start.aim)
    except (NotPicked, Stuck):
        raise Stopped(index) from None


def walk(start, script):
    """Yield the goal at the beginning and behind each step; raise Stopped where the run stops."""
    goal = start.goal()
    yield list(goal)
    for index, step in enumerate(script.steps()):
        goal = done_in_run(goal, start, step, index)[0]
        # The caller may change the list that it gets, and the run goes on all the same.
        yield list(goal)


def ends(start, script):
    """Return the goal behind all steps."""
    goals = list(walk(start, script))
    return goals[-1]


def picks(start, script):
    """Return the list of what `done` tells as picked, one for each step."""
    goal = start.goal()
    result = []
    for index, step in enumerate(script.steps()):
        goal, chosen = done_in_run(goal, start, step, index)
        result.append(chosen)
    return result


def is_done(start, script):
    """Return whether the run does not stop."""
    try:
        ends(start, script)
    except Stopped:
        return False
    return True


def closes(start, script):
    """Return whether the run is done and ends with a "close"."""
    steps = script.steps()
    return steps != [] and steps[-1][0] == "close" and is_done(start, script)


def owned(start, script):
    """Return the list of the marked goals, at the beginning and behind each step."""
    book = marked("book", start.book())
    goal = marked("goal", start.goal())
    goals = [goal]
    for index, step in enumerate(script.steps()):
        chosen = done_in_run(unmarked(goal), start, step, index)[1]
        goal = acted(goal, book, step, chosen, index)
        goals.append(goal)
    return goals


def owners_at(rows, indexes):
    """Return the ascending list of the owners that the marked rows with these indexes hold."""
    return sorted([owner for at in indexes for owner in rows[at][2]])


def meant(start, script):
    """Return the list, for each step, of the lists, for each pick, of the owners that it meant."""
    book = marked("book", start.book())
    result = []
    for goal, step, chosen in zip(owned(start, script), script.steps(), picks(start, script)):
        homes = [book if home_of(pick) == "book" else goal for pick in picks_of(step)]
        result.append([owners_at(rows, indexes) for rows, indexes in zip(homes, chosen)])
    return result
