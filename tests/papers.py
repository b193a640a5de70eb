"""Papers changed in one part, for tests that hold two readings of them against one another."""

FIT = ("as", (), (), ())
# What is put in the place of each part of a paper; truths, lists and numbers below 0 among them.
OTHERS = (
    None, True, False, 0, 1, 2, -1, "as", "row", (), [], {}, ((),), ((0,),), (((),),), FIT, (FIT,), ((), ()), ((), (), ()),
    ("row", 0), ("row", 1), ("row", True), ("row", False), ("row", 2), ("row",), ("empty", 0, (), ()), ("empty", 1, (), ()),
    ("empty", False, (), ()), ("ask", (), ()), ("same",), (("same",),), (("never",),), (("later",),), (("peel",),),
    (("solve", 0),), (("solve", 1),), (("solve", True), ("same",)), (("solve", False), ("same",)), (("solve", 0), ("same",)),
    (("solve", 1), ("same",)), (("walk", (), ()),), (("later",), ("later",)), (("same",), ("never",)), (("never",), ("same",)),
    ("under", (), (), (), (), (), FIT), ((True,),), ((False,),), ("x",),
)


def changed(thing):
    """All things that differ from this one in one part."""
    for other in OTHERS:
        if other != thing or repr(other) != repr(thing):
            yield other
    if isinstance(thing, tuple):
        yield list(thing)
        yield thing + ((),)
        yield thing[:-1]
        yield thing[::-1]
        for at in range(len(thing)):
            yield thing[:at] + thing[at + 1:]
            yield thing[:at] + (thing[at],) + thing[at:]
            for made in changed(thing[at]):
                yield thing[:at] + (made,) + thing[at + 1:]


def one_changed(chance, thing):
    """The thing with one of its parts changed, however deep."""
    while isinstance(thing, tuple) and thing and chance.random() < 0.9:
        at = chance.randrange(len(thing))
        return thing[:at] + (one_changed(chance, thing[at]),) + thing[at + 1:]
    if isinstance(thing, tuple) and len(thing) > 1 and chance.random() < 0.3:
        at = chance.randrange(len(thing) - 1)
        return thing[:at] + (thing[at + 1], thing[at]) + thing[at + 2:]
    if isinstance(thing, tuple) and chance.random() < 0.2:
        return thing + (chance.choice(thing) if thing else (),)
    if isinstance(thing, tuple) and thing and chance.random() < 0.3:
        return thing[1:]
    return chance.choice(OTHERS)
