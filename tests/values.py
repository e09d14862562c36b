"""Values for the tests that pass any value, and the check of what tells their kinds."""


def check_kind(case, function, good, bad):
    """Check that a function returns just True for the good values, and just False for the bad ones."""
    for expected, things in [(True, good), (False, bad)]:
        for thing in things:
            with case.subTest(function=function.__name__, thing=repr(thing)[:60]):
                case.assertIs(function(thing), expected)


def deep_tuple(depth, inner="a"):
    """Return a value in so many tuples, one inside the other."""
    for _ in range(depth):
        inner = (inner,)
    return inner


def deep_list(depth, inner="a"):
    """Return a value in so many lists, one inside the other."""
    for _ in range(depth):
        inner = [inner]
    return inner


def deep_pick(depth):
    """Return a value that begins like a pick in the book, so many deep."""
    pick = ("last",)
    for _ in range(depth):
        pick = ("book", pick)
    return pick


def odd_values():
    """Return values that are no integer, name, atom, row, pick, step, list or tuple of such."""
    return [
        None, True, False, "", "A", "Abc", "abcdefghi", "a" * 3000, "a b", "a\n", "eq ", "?", "_", b"a", b"eq",
        ["a"], ("a",), [None], (None,), {}, {"a": "b"}, {"eq": 1}, set(), {"eq"}, frozenset(["a"]), range(3),
        [[]], [()], ((),), ([],), ("", "", "", ""), ("eq", "a"), ("eq", "a", "b", "c"), ["eq", "a", "b"],
        ("eq", ["a"], "b"), ("eq", {}, "b"), ([], "a", "b"), ({}, "a", "b"), (None, "a", "b"), ("eq", None, "b"),
        ("eq", "a", True), (True, "a", "b"), ("eq", 1, 2), ("h", ()), ("h", []), ("h", [("eq", "a", "b")]),
        ["h", (("eq", "a", "b"),)], ("h", ("eq", "a", "b")), ("book",), ("book", None), ("book", []), ("book", "last"),
        ("at",), ("at", None), ("at", True), ("at", False), ("at", -1), ("at", "0"), ("last", "a"), ("name",),
        ("name", ""), ("name", ["a"]), ("like", ()), ("like", "a"), ("all",), ("all", []), ("turn",), ("turn", None),
        ("turn", ()), ("close",), ("close", None), ("chain",), ("chain", None, None, None), [("last",)],
        ["last"], "goal ", "eq lt", deep_tuple(20), deep_list(20), deep_pick(19), ("eq", deep_list(18), "b"),
        ("h", deep_tuple(18)), ("turn", deep_pick(18)), ["x"] * 4990, ("x",) * 4990, [("x",)] * 1600,
        ("book", ("x",) * 4000), object(), ValueError("a"),
    ]
