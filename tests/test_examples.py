import doctest
import unittest

# The document's examples, which are one session.
EXAMPLES = r"""
>>> from scriptpicks.atoms import atoms_of, both, chained, fits, patterns_of, turned, turned_pattern
>>> from scriptpicks.words import fresh
>>> [turned(("lt", "a", "b")), turned_pattern(("lt", "a", "")), chained(("eq", "a", "b"), ("lt", "b", "c"))]
[('gt', 'b', 'a'), ('gt', '', 'a'), ('lt', 'a', 'c')]
>>> [fits(("", "a", ""), ("eq", "a", "b")), both(("lt", "", ""), ("", "a", "")), len(patterns_of(("eq", "a", "a")))]
[True, ('lt', 'a', ''), 8]
>>> [fresh(["a", "c"]), atoms_of([("eq", "a", "")])]
['b', [('eq', 'a', 'a'), ('eq', 'a', 'b'), ('eq', 'b', 'a'), ('eq', 'b', 'b')]]
>>> from scriptpicks.picks import picked, picks_to
>>> from scriptpicks.starts import Start
>>> rows = [("h", (("eq", "a", "b"),)), ("k", (("lt", "b", "c"), ("eq", "c", "d"))), ("h", (("gt", "e", "d"),))]
>>> start = Start(rows, [("trans", (("lt", "d", "e"),))], ("lt", "a", "c"))
>>> [picked(("name", "h"), rows), picked(("like", ("eq", "", "")), rows), picked(("all", ("", "", "d")), rows), picked(("at", 3), rows)]
[[2], [1], [1, 2], []]
>>> [picks_to(rows, 2)[:3], start.owners("goal"), len(start), start.things()]
[[('at', 2), ('last',), ('like', ('', '', ''))], [(('goal', 0, 0),), (('goal', 1, 0), ('goal', 1, 1)), (('goal', 2, 0),)], 4, ['a', 'b', 'c', 'd', 'e']]
>>> from scriptpicks.runs import closes, ends, meant, picks
>>> from scriptpicks.scripts import Script
>>> script = Script([("part", ("name", "k")), ("chain", ("at", 0), ("like", ("lt", "b", "")), "t"), ("close", ("last",))])
>>> [picks(start, script), ends(start, script)[-1], closes(start, script)]
[[[[1]], [[0], [1]], [[4]]], ('t', (('lt', 'a', 'c'),)), True]
>>> [meant(start, script)[0], meant(start, script)[2], script.places()]
[[[('goal', 1, 0), ('goal', 1, 1)]], [[('made', 1)]], [(1, 0)]]
>>> from scriptpicks.sessions import Session
>>> from scriptpicks.truths import follows, possible, trail
>>> [follows(rows, ("lt", "a", "e")), trail(rows, ("lt", "a", "c")), follows(rows, ("eq", "a", "c"))]
[True, [(0, 0, False), (1, 0, False)], False]
>>> session = Session(start)
>>> session += ("drop", ("name", "h"))
>>> [session.would(("call", ("last",), "m")), len(session.goal()), session.back(), len(session.goal())]
[[[1]], 2, ('drop', ('name', 'h')), 3]
>>> from scriptpicks.edits import Draft, edited, elements_in
>>> from scriptpicks.licences import Licence
>>> draft = edited(start, [("part", "goal", 1), ("put", "goal", 0, ("n", (("eq", "x", "y"),))), ("turn", "goal", 3)])
>>> [draft.rows("goal")[3], elements_in(draft, "goal")]
[('k', (('eq', 'd', 'c'),), (('goal', 1, 1),)), [(('new', 1), 1), (0, 1), (1, 2), (2, 1)]]
>>> licence = Licence(goal="any", names=["h"], turn=[("goal", 1)], part=[("goal", 1)])
>>> [licence.lets_all(start, draft.edits()), licence.lets(draft, ("put", "goal", 3, ("n", (("eq", "x", "y"),))))]
[True, False]
>>> from scriptpicks.held import Held
>>> from scriptpicks.lives import effect, life
>>> held = Held(start, script)
>>> [held.outcome([("put", "goal", 3, ("k", (("eq", "x", "y"),)))]), held.outcome([("put", "goal", 0, ("n", (("eq", "x", "y"),)))])]
[(0, 'other'), (1, 'other')]
>>> [held.outcome([("call", "goal", 1, "m")]), held.outcome([("call", "goal", 1, "m")], pins=[0]), held.outcome([("out", "goal", 1)])]
[(0, 'none'), None, (0, 'lost')]
>>> [effect(held, "goal", 0, ("n", (("lt", "b", "y"),))), effect(held, "goal", 3, ("n", (("lt", "b", "y"),)))]
[([], {(1, 0): 1}), ([1], {(1, 0): 0})]
>>> from scriptpicks.pins import loose, miss_edit
>>> from scriptpicks.strays import fates, first_edit
>>> put = Licence(goal="any", names=["k"])
>>> [fates(held, put), loose(held, put), fates(held, Licence(goal="back"))]
[[[], ['misses'], []], [1], [['misses'], ['misses'], []]]
>>> [held.outcome(first_edit(held, put, 1, "misses")), first_edit(held, put, 0, "misses")]
[(1, 'other'), None]
>>> fates(held, Licence(turn=[("goal", 0), ("goal", 2)], out=[("goal", 1)]))
[['lost'], ['lost'], []]
>>> from scriptpicks.alike import are_alike
>>> from scriptpicks.choices import choices, mended
>>> from scriptpicks.swaps import swaps
>>> other = Held(start, Script([("part", ("name", "k")), ("chain", ("like", ("eq", "a", "")), ("like", ("lt", "b", "")), "t"), ("turn", ("name", "h"))]))
>>> none = Licence(goal="front", patterns=[("eq", "", "")])
>>> [swaps(other, none), are_alike(other, Held(start, other.script().swapped(1)), none), choices(other, none, 1, 0)[:2]]
[[1], True, [('like', ('', '', 'b')), ('like', ('', 'a', ''))]]
>>> [mended(held, none)[0][1], mended(held, none)[1]]
[('chain', ('like', ('', '', 'b')), ('like', ('lt', 'b', '')), 't'), []]
>>> from scriptpicks.desk import Desk
>>> from scriptpicks.notation import show_script, show_start
>>> from scriptpicks.readers import read_step
>>> [show_start(start).split("\n")[1:3], show_script(script).split("\n")[1]]
[['goal k: b < c & c = d', 'goal h: e > d'], 'chain at 0 with like b < ? as t']
>>> desk = Desk(start, script)
>>> [desk.execute("let goal back"), desk.execute("sure 0"), desk.execute("try out goal 1"), desk.execute("loose")]
['done', 'misses', '0 lost', '0 1']
"""


class ExamplesTest(unittest.TestCase):
    def test_the_session(self):
        session = doctest.DocTestParser().get_doctest(EXAMPLES, {}, "examples", None, None)
        told = []
        result = doctest.DocTestRunner(verbose=False).run(session, out=told.append)
        self.assertEqual(result.failed, 0, "".join(told))
        self.assertEqual(result.attempted, len(session.examples))
