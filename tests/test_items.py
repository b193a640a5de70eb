import copy
import unittest

from kindsbyworth.items import is_item, names_of
from tests.samples import (
    ADD, BOTH, DUE, EMPTY, GONE_LOT, ITEMS, MIXED, NAT, NATS, ODD_THINGS, TAKE, TERMS, ZERO, deep_term, nested, shaped,
    wide_term,
)

HOLE = ("hole", "a")
W0 = ("world", 0)

# What is no term, whatever stands for one.
NO_TERMS = (None, True, 0, "nat", (), [], {}, ("at", True), ["at", 0], ("world", 10), ("family", "nat", [NAT]),
            ("hole", "a.1.b"), ("take",))
NO_NAMES = ("", "abcdefghi", "Nat", "a b", "a.0.b", "a.1", "a.1.b.", None, 0, True, ("a",), ["a"], {"a": 1})
NO_TUPLES = (None, 0, True, "", "ab", [], {}, [("gone", W0)], {"a": 1})
NO_MARKS = ("Run", "", None, 0, True, ("run",), ["run"], {}, "run\n")


def family(name="fam", params=(), indexes=(), world=0, shapes=()):
    return ("family", name, params, indexes, world, shapes)


def definition(name="def", telescope=(), result=W0, less=None, rows=()):
    return (name, telescope, result, less, rows)


def lot(*definitions):
    return ("lot", definitions)


def row_lot(patterns, body, many=None):
    """A lot of one definition of one row."""
    telescope = (("run", W0),) * (len(patterns) if many is None else many)
    return lot(definition(telescope=telescope, rows=((patterns, body),)))


class ItemTest(unittest.TestCase):
    def right(self, thing):
        self.assertIs(is_item(thing), True, repr(thing)[:200])

    def wrong(self, thing):
        self.assertIs(is_item(thing), False, repr(thing)[:200])

    def test_items(self):
        for item in ITEMS + (family(), lot(definition())):
            self.right(item)

    def test_of_anything(self):
        for thing in ODD_THINGS + TERMS:
            self.wrong(thing)

    def test_outermost(self):
        for item in ITEMS:
            for amiss in (list(item), item[:-1], item + ((),), item[1:], (item,), ("open",) + item[1:],
                          ("Lot",) + item[1:], (None,) + item[1:], ([item[0]],) + item[1:], {item[0]: item[1:]}):
                self.wrong(amiss)
        self.wrong(("lot",) + NATS[1:])
        self.wrong(("family",) + ADD[1:])

    def test_open_items_are_none(self):
        self.wrong(("open", "a", (), W0))
        self.wrong(("open", "a", (("run", NAT),), NAT))

    def test_names(self):
        for name in ("a", "abcdefgh", "a.1.b", "lib." + "9" * 40 + ".nat"):
            self.right(family(name=name))
            self.right(lot(definition(name=name)))
        for name in NO_NAMES:
            self.wrong(family(name=name))
            self.wrong(lot(definition(name=name)))

    def test_deep_and_great(self):
        self.right(family(indexes=(("gone", deep_term(40)),)))
        self.right(lot(definition(result=wide_term(19000))))
        self.right(row_lot((deep_pattern(80),), wide_term(400)))
        self.right(row_lot((TAKE,) * 5000, ZERO))
        self.wrong(row_lot((TAKE,) * 5000 + (("take", 0),), ZERO))
        self.wrong(row_lot((deep_pattern(80, ("due", 0)),), ZERO))
        self.wrong(lot(definition(result=nested(80, lambda thing: ("family", "a", (thing,))))))

    def test_nothing_handed_in_is_changed(self):
        for thing in ([], {"lot": [1]}, ["lot", [definition()]], ("lot", [definition()]),
                      family(shapes=[("a", [], {})])):
            kept = copy.deepcopy(thing)
            self.wrong(thing)
            self.assertEqual(thing, kept)

    def test_by_names(self):
        self.assertIs(is_item(thing=NATS), True)
        self.assertEqual(names_of(item=NATS), ("nat",))


class FamilyTest(ItemTest):
    def test_telescopes(self):
        for telescope in ((), (("gone", W0),), (("gone", W0), ("gone", ("at", 0))), (("gone", ("at", 9)),) * 9):
            self.right(family(params=telescope))
            ends = (ZERO,) * len(telescope)
            self.right(family(indexes=telescope, shapes=(("s", (), ends),)))
            self.right(family(shapes=(("s", telescope, ()),)))
        for amiss in NO_TUPLES:
            self.wrong(family(params=amiss))
            self.wrong(family(indexes=amiss))
            self.wrong(family(shapes=amiss))
            self.wrong(family(shapes=(("s", amiss, ()),)))
            self.wrong(family(shapes=(("s", (), amiss),)))

    def test_pairs(self):
        pairs = [("gone",), ("gone", W0, W0), (), ["gone", W0], {"gone": W0}, None, "ab", 0, W0, (W0, "gone")]
        pairs.extend([(mark, W0) for mark in NO_MARKS])
        pairs.extend([("gone", kind) for kind in NO_TERMS + (HOLE, ("to", "run", NAT, HOLE))])
        for pair in pairs:
            for telescope in ((pair,), (("gone", W0), pair)):
                self.wrong(family(params=telescope))
                self.wrong(family(indexes=telescope))
                self.wrong(family(shapes=(("s", telescope, ()),)))

    def test_marks(self):
        run = (("run", W0),)
        self.wrong(family(params=run))
        self.wrong(family(indexes=run))
        self.wrong(family(params=(("gone", W0),) + run))
        self.right(family(shapes=(("s", run, ()),)))

    def test_worlds(self):
        for world in (0, 1, 8):
            self.right(family(world=world))
        for world in (9, 10, -1, True, False, None, "0", (0,), [0], ("world", 0)):
            self.wrong(family(world=world))

    def test_shapes(self):
        shape = ("s", (), ())
        self.right(family(shapes=(shape, ("t", (), ()))))
        self.right(family(name="s", shapes=(shape,)))
        for amiss in ((shape, shape), (shape, ("t", (), ()), ("s", (("run", NAT),), ())), (("s", ()),),
                      (("s", (), (), ()),), (["s", (), ()],), [shape], (shape, None), ("s",), ((),)):
            self.wrong(family(shapes=amiss))
        for name in NO_NAMES + ("a.1.b",):
            self.wrong(family(shapes=((name, (), ()),)))

    def test_as_many_ends_as_indexes(self):
        for many in range(4):
            for ends in range(4):
                made = family(indexes=(("gone", NAT),) * many, shapes=(("s", (), (ZERO,) * ends),))
                self.assertIs(is_item(made), many == ends)
        for end in NO_TERMS + (HOLE, ("call", "f", (HOLE,))):
            self.wrong(family(indexes=(("gone", NAT),), shapes=(("s", (), (end,)),)))

    def test_names_of(self):
        self.assertEqual(names_of(NATS), ("nat",))
        self.assertEqual(names_of(BOTH), ("base.10.eq",))
        self.assertEqual(names_of(EMPTY), ("void",))


def deep_pattern(levels, inner=TAKE):
    pattern = inner
    for _ in range(levels - 1):
        pattern = ("shape", "next", (pattern,))
    return pattern


class LotTest(ItemTest):
    def test_definitions(self):
        one, other = definition(name="one"), definition(name="other")
        self.right(lot(one))
        self.right(lot(one, other))
        for amiss in (lot(), lot(one, one), lot(one, other, definition(name="one", result=NAT)), ("lot", [one]),
                      ("lot", one), lot(one, None), lot(one, list(other)), lot(one[:-1]), lot(one + (0,)),
                      ("lot", {}), ("lot", None), ("lot", one, other)):
            self.wrong(amiss)
        for amiss in NO_TUPLES:
            self.wrong(("lot", amiss))
            self.wrong(lot(definition(telescope=amiss)))
            self.wrong(lot(definition(rows=amiss)))

    def test_telescopes_and_results(self):
        for mark in ("run", "gone"):
            self.right(lot(definition(telescope=((mark, W0), (mark, ("at", 7))), result=("at", 99))))
        for mark in NO_MARKS:
            self.wrong(lot(definition(telescope=((mark, W0),))))
        for kind in NO_TERMS + (HOLE, ("fun", "run", HOLE, NAT)):
            self.wrong(lot(definition(telescope=(("run", kind),))))
            self.wrong(lot(definition(result=kind)))
        for pair in (("run",), ("run", W0, W0), ["run", W0], None):
            self.wrong(lot(definition(telescope=(pair,))))

    def test_less(self):
        telescope = (("run", NAT),) * 3
        for less in (None, 0, 1, 2):
            self.right(lot(definition(telescope=telescope, less=less)))
        for less in (3, 4, -1, True, False, "0", "-", (0,), [0], 10 ** 39):
            self.wrong(lot(definition(telescope=telescope, less=less)))
        self.wrong(lot(definition(less=0)))
        self.wrong(lot(definition(telescope=telescope[:1], less=1)))

    def test_rows(self):
        one = ((TAKE,), ZERO)
        telescope = (("run", NAT),)
        self.right(lot(definition(telescope=telescope, rows=(one, one))))
        for amiss in ([one], (list(one),), (one[:1],), (one + (0,),), (one, None), (((TAKE,),),), (([TAKE], ZERO),),
                      ((TAKE, ZERO),), ((None, ZERO),), one, ("row",)):
            self.wrong(lot(definition(telescope=telescope, rows=amiss)))
        for body in NO_TERMS:
            self.wrong(row_lot((TAKE,), body))

    def test_as_many_patterns_as_telescope(self):
        for many in range(4):
            for patterns in range(4):
                self.assertIs(is_item(row_lot((DUE,) * patterns, ZERO, many)), many == patterns)

    def test_patterns(self):
        for pattern in (TAKE, DUE, shaped("a"), shaped("abcdefgh", TAKE, DUE, shaped("b", shaped("c"))),
                        deep_pattern(90)):
            self.right(row_lot((pattern,), ZERO))
        for pattern in (None, (), 0, True, "take", "*", ["take"], {"take": 1}, ("Take",), ("take", ()), ("due", ()),
                        ("shape",), ("shape", "a"), ("shape", "a", (), ()), ("shape", "a", [TAKE]),
                        ("shape", "a", TAKE), ("shape", "a", (None,)), ("shape", "a", "take"),
                        ("shape", "a", (TAKE, ("due", 1))), (TAKE,), ("hole", "a"), ("pass",), ["shape", "a", ()],
                        ("shape", "a", None), ("shapes", "a", ()), deep_pattern(90, ("take", 0)), ZERO):
            self.wrong(row_lot((pattern,), ZERO))
            self.wrong(row_lot((TAKE, pattern), ZERO))
            self.wrong(row_lot((shaped("a", TAKE, pattern),), ZERO))
        for name in NO_NAMES + ("a.1.b",):
            self.wrong(row_lot((("shape", name, ()),), ZERO))

    def test_patterns_however_deep(self):
        self.assertIs(is_item(row_lot((deep_pattern(6000),), ZERO)), True)
        self.assertIs(is_item(row_lot((deep_pattern(6000, ("take", 0)),), ZERO)), False)

    def test_holes(self):
        b = ("hole", "b")
        self.right(row_lot((), HOLE))
        self.right(row_lot((), ("call", "f", (HOLE, b))))
        self.right(row_lot((), ("fun", "run", HOLE, ("give", "gone", b, ("hole", "c")))))
        self.wrong(row_lot((), ("call", "f", (HOLE, b, HOLE))))
        self.wrong(row_lot((), ("hole", "def")))
        self.wrong(row_lot((), ("call", "f", (HOLE, ("fun", "run", NAT, ("hole", "def"))))))

    def test_holes_of_several_rows(self):
        telescope = (("run", NAT),)
        one, other = ((TAKE,), HOLE), ((TAKE,), ("hole", "b"))
        self.right(lot(definition(telescope=telescope, rows=(one, other))))
        self.wrong(lot(definition(telescope=telescope, rows=(one, other, one))))
        first = definition(name="first", rows=(((), HOLE),))
        for name, hole, right in (("second", "b", True), ("second", "a", False), ("second", "first", False),
                                  ("second", "second", False), ("a", "b", False), ("a.1.a", "b", True),
                                  ("lib.1.b", "b", True)):
            second = definition(name=name, rows=(((), ("hole", hole)),))
            self.assertIs(is_item(lot(first, second)), right, (name, hole))
            self.assertIs(is_item(lot(second, first)), right, (name, hole))

    def test_holes_like_the_families_that_are_called(self):
        self.right(row_lot((), ("call", "f", (("hole", "f"), ("family", "g", (("hole", "g"),))))))

    def test_names_of(self):
        self.assertEqual(names_of(ADD), ("add",))
        self.assertEqual(names_of(MIXED), ("head", "base.2.two", "bare", "pair"))
        self.assertEqual(names_of(GONE_LOT), ("lone",))
        self.assertEqual(names_of(lot(definition(name="b"), definition(name="a"))), ("b", "a"))


if __name__ == "__main__":
    unittest.main()
