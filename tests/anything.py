"""Things of many kinds, for every question that is asked of anything."""


def deep(wrap, core, times):
    thing = core
    for _ in range(times):
        thing = wrap(thing)
    return thing


def anything():
    apart = ("apart",)
    return [
        None, True, False, 0, 1, -1, 7, 10 ** 79, -(10 ** 79),
        "", "a", "ab", "apart", "long", "\n", " ", "~" * 2000,
        [], [[]], ["a"], ["apart"], [("apart",)], [0] * 1000, [None], [True],
        (), ((),), (None,), (0,), (True,), ("",), (("apart",),), ([],), ({},), ("a", None),
        ("nothing",), ("long",), ("apart", None), ("a",) * 1000, (0, 0), ([], []), ([True], [[]]), ("a", ()),
        {}, {"a": 1}, {0: [1]}, {("a",): ("b",)},
        b"a", b"", {1, 2}, frozenset(), range(3), len, object(), Exception, ValueError("x"), slice(1),
        deep(lambda thing: [thing], "a", 29),
        deep(lambda thing: (thing,), "a", 29),
        deep(lambda thing: {"a": thing}, "a", 29),
        deep(lambda thing: ("not", thing), apart, 29),
        # Each lies twice in the next one: walked whole it would never end.
        deep(lambda thing: ("both", thing, thing), apart, 29),
        deep(lambda thing: ("either", thing, thing), apart, 29),
        deep(lambda thing: [thing, thing], apart, 29),
        deep(lambda thing: (thing, thing), "a", 29),
    ]
