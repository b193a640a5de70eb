"""Terms, items and odd things that several tests need."""

NAT = ("family", "nat", ())
ZERO = ("shape", "nat", "zero", ())


def next_of(term):
    return ("shape", "nat", "next", (term,))


def number(many):
    term = ZERO
    for _ in range(many):
        term = next_of(term)
    return term


NATS = ("family", "nat", (), (), 0, (
    ("zero", (), ()),
    ("next", (("run", NAT),), ()),
))

LISTS = ("family", "list", (("gone", ("world", 0)),), (), 1, (
    ("nil", (), ()),
    ("cons", (("run", ("at", 0)), ("run", ("family", "list", (("at", 1),)))), ()),
))

VECS = ("family", "vec", (("gone", ("world", 0)),), (("gone", NAT),), 1, (
    ("none", (), (ZERO,)),
    ("some", (
        ("gone", NAT),
        ("run", ("at", 1)),
        ("run", ("family", "vec", (("at", 2), ("at", 1)))),
    ), (next_of(("at", 2)),)),
))

TAKE = ("take",)
DUE = ("due",)


def shaped(name, *patterns):
    return ("shape", name, patterns)


ADD = ("lot", (
    ("add", (("run", NAT), ("run", NAT)), NAT, 0, (
        ((shaped("zero"), TAKE), ("at", 0)),
        ((shaped("next", TAKE), TAKE), next_of(("call", "add", (("at", 1), ("at", 0))))),
    )),
))

# Definitions with and without less, rows, telescopes; due; holes; a far name.
MIXED = ("lot", (
    ("head", (
        ("gone", ("world", 0)),
        ("gone", NAT),
        ("run", ("family", "vec", (("at", 1), next_of(("at", 0))))),
    ), ("at", 2), 2, (
        ((TAKE, DUE, shaped("some", DUE, TAKE, TAKE)), ("hole", "first")),
    )),
    ("base.2.two", (), NAT, None, (
        ((), next_of(("hole", "second"))),
    )),
    ("bare", (("run", NAT),), ("to", "gone", ("world", 3), NAT), None, ()),
    ("pair", (("run", NAT), ("run", NAT)), NAT, 1, (
        ((shaped("next", shaped("next", shaped("zero"))), TAKE), ("fun", "run", NAT, ("hole", "third"))),
        ((TAKE, shaped("zero")), ("give", "gone", ("at", 0), ("at", 12))),
    )),
))

EMPTY = ("family", "void", (), (), 8, ())
GONE_LOT = ("lot", (("lone", (), ("world", 9), None, ()),))
BOTH = ("family", "base.10.eq", (("gone", ("world", 2)), ("gone", ("at", 0))), (("gone", ("at", 1)),), 2, (
    ("same", (), (("at", 0),)),
))

ITEMS = (NATS, LISTS, VECS, ADD, MIXED, EMPTY, GONE_LOT, BOTH)

LEAVES = (("at", 0), ("at", 7), ("at", 10 ** 40 - 1), ("world", 0), ("world", 9), ("hole", "a"), ("hole", "abcdefgh"))

TERMS = LEAVES + (
    ("to", "run", NAT, ("world", 0)),
    ("to", "gone", ("world", 8), ("at", 0)),
    ("fun", "gone", ("world", 0), ("at", 0)),
    ("fun", "run", NAT, ("fun", "gone", ("at", 0), ("at", 1))),
    ("give", "run", ("at", 1), ("at", 0)),
    ("give", "gone", ("fun", "gone", NAT, ("at", 0)), ("hole", "b")),
    NAT,
    ("family", "list", (NAT,)),
    ("family", "base.2.nat", (("at", 0), ("at", 1), ("world", 1))),
    ZERO,
    ("shape", "nat", "next", (("at", 0),)),
    ("shape", "lib.10.vec", "abcdefgh", (NAT, ZERO, ("at", 3))),
    ("call", "add", (("at", 1), ("at", 0))),
    ("call", "x", ()),
    ("call", "a.1.b", (("call", "add", ()),)),
)


def deep_term(levels):
    """A term of so many terms within one another."""
    term = ("at", 0)
    for _ in range(levels - 1):
        term = ("family", "list", (term,))
    return term


def wide_term(size):
    """A term of so many spots."""
    return ("call", "wide", (("at", 0),) * (size - 1))


def nested(levels, outer):
    """Things that are no terms, so many within one another."""
    thing = outer(0)
    for _ in range(levels - 1):
        thing = outer(thing)
    return thing


ODD_THINGS = (
    None, True, False, 0, 1, -1, 10 ** 40 - 1, "", " ", "\n", "A", "a b", "(", ")", "at", "@", "!", "?", "@0 ", " @0",
    "x" * 20000, "(" * 20000, ")" * 20000, " " * 20000, "\n" * 20000, "1" * 20000, "@" + "1" * 19999,
    (), [], {}, ((),), [[]], (None,), ("",), ("at",), ["at", 0], {"at": 0}, (["at"], 0), ({}, 0), ((), 0),
    (("at", 0),), [("at", 0)], {"a": ("at", 0)}, ("at", 0, 0), ("lot",), ("lot", None), ("family",), ("open",),
    ("take",), ("due",), ("shape",), [1, 2], (1, 2), {"a": [{}]}, {1: 2}, {(): ()},
    nested(90, lambda thing: (thing,)), nested(90, lambda thing: [thing]), nested(90, lambda thing: {"a": thing}),
    nested(90, lambda thing: ("to", "run", thing, thing)[:3]), nested(90, lambda thing: ("family", "a", (thing,))),
    nested(90, lambda thing: ("lot", thing)), nested(90, lambda thing: ("shape", "a", (thing,))),
    (0,) * 20000, [0] * 20000, tuple([()] * 20000), ("call", "a", (0,) * 19000), ("lot", ((),) * 19000),
)


def changed_texts(text, signs):
    """The text with a sign out, in, twice, in another's place, or exchanged with the next."""
    found = {}
    for place in range(len(text) + 1):
        ahead, behind = text[:place], text[place:]
        for sign in signs:
            found[ahead + sign + behind] = True
            if behind:
                found[ahead + sign + behind[1:]] = True
        if behind:
            found[ahead + behind[1:]] = True
            found[ahead + behind[0] + behind] = True
        if len(behind) > 1:
            found[ahead + behind[1] + behind[0] + behind[2:]] = True
    found.pop(text, None)
    return list(found)


def changed_rows(text, between):
    """The text with a word (or line) out, twice, or exchanged with another."""
    rows = text.split(between)
    found = {}
    for place in range(len(rows)):
        found[between.join(rows[:place] + rows[place + 1:])] = True
        found[between.join(rows[:place + 1] + rows[place:])] = True
        for other in range(place):
            mixed = list(rows)
            mixed[place], mixed[other] = rows[other], rows[place]
            found[between.join(mixed)] = True
    found.pop(text, None)
    return list(found)
