import copy
import unittest

from kindsbyworth.errors import Absent, NoSpot
from kindsbyworth.terms import (
    holes_in, is_far, is_name, is_open, is_term, part_at, parts_of, size_of, spots_of, with_part,
)
from tests.samples import LEAVES, NAT, ODD_THINGS, TERMS, ZERO, deep_term, nested, wide_term


class NamesTest(unittest.TestCase):
    def test_names(self):
        for name in ("a", "z", "nat", "abcdefgh", "zzzzzzzz"):
            self.assertIs(is_name(name), True, name)

    def test_no_names(self):
        for thing in ("", "abcdefghi", "a" * 9, "nat\n", "\nnat", " nat", "nat ", "Nat", "n1", "1", "a-b", "a_b",
                      "a.b", "na t", "{", "`", "@", "[", "\u00e9", "\u03b1", "\u00df", "ab\x00", "a.1.b"):
            self.assertIs(is_name(thing), False, thing)
        for thing in (["a"], ("a",), {"a": 1}, [["a"]], b"a"):
            self.assertIs(is_name(thing), False, thing)

    def test_far_names(self):
        for name in ("base.2.nat", "a.1.b", "abcdefgh.10.abcdefgh", "a." + "9" * 40 + ".b", "a.1" + "0" * 39 + ".b"):
            self.assertIs(is_far(name), True, name)

    def test_no_far_names(self):
        for thing in ("a.0.b", "a.00.b", "a.01.b", "a." + "9" * 41 + ".b", "a.1" + "0" * 40 + ".b", "a..b", "a.1.",
                      ".1.b", "a.1", "a.b", "a", "a.1.b.", ".a.1.b", "a.1.b.2.c", "a.1.b\n", "a.1\n.b", "a. 1.b",
                      "a.+1.b", "a.-1.b", "a.1_0.b", "a.x.b", "abcdefghi.1.b", "a.1.abcdefghi", "A.1.b", "a.1.B",
                      "a 1 b", "a.\u0661.b", "a.\u00b2.b", "..", "a,1,b", "a.1.b "):
            self.assertIs(is_far(thing), False, thing)
        for thing in (("a", 1, "b"), ["a.1.b"], ("a.1.b",), {"a.1.b": 1}, 1):
            self.assertIs(is_far(thing), False, thing)

    def test_of_anything(self):
        for thing in ODD_THINGS:
            self.assertIs(is_name(thing), thing == "at", repr(thing)[:60])
            self.assertIs(is_far(thing), False, repr(thing)[:60])


class IsTermTest(unittest.TestCase):
    def test_of_each_word(self):
        for term in TERMS:
            self.assertIs(is_term(term), True, term)

    def test_of_anything(self):
        for thing in ODD_THINGS:
            self.assertIs(is_term(thing), False, repr(thing)[:60])

    def test_bounds_of_numbers(self):
        for thing in (("at", 0), ("at", 10 ** 60), ("world", 0), ("world", 9)):
            self.assertIs(is_term(thing), True, thing)
        for thing in (("at", -1), ("world", -1), ("world", 10), ("at", True), ("at", False), ("world", True),
                      ("world", False), ("at", "0"), ("at", None), ("at", (0,)), ("world", "0"), ("world", [0])):
            self.assertIs(is_term(thing), False, thing)

    def test_marks(self):
        for word in ("to", "fun", "give"):
            for mark in ("run", "gone"):
                self.assertIs(is_term((word, mark, NAT, NAT)), True)
            for mark in ("", "Run", "runs", "rung", "one", "run\n", None, 0, ("run",), ["run"], {"run": 1}, True):
                self.assertIs(is_term((word, mark, NAT, NAT)), False, mark)

    def test_names_near_and_far(self):
        for word in ("family", "call"):
            for name in ("a", "abcdefgh", "a.1.b"):
                self.assertIs(is_term((word, name, ())), True, name)
            for name in ("", "abcdefghi", "A", "a.0.b", "a.1", None, ("a",), ["a"]):
                self.assertIs(is_term((word, name, ())), False, name)
        for name, shape, right in (("a", "b", True), ("a.1.b", "c", True), ("a", "b.1.c", False), ("", "b", False),
                                   ("a", "", False), ("a", "abcdefghi", False), ("a", None, False),
                                   (["a"], "b", False), ("a", ["b"], False), ("a.01.b", "c", False)):
            self.assertIs(is_term(("shape", name, shape, ())), right, (name, shape))
        for name, right in (("a", True), ("abcdefgh", True), ("a.1.b", False), ("abcdefghi", False), ("", False),
                            (None, False), (["a"], False)):
            self.assertIs(is_term(("hole", name)), right, name)

    def test_a_part_fewer_or_more(self):
        for term in TERMS:
            self.assertIs(is_term(term[:-1]), False, term)
            for more in (0, NAT, (), "run"):
                self.assertIs(is_term(term + (more,)), False, term)
            self.assertIs(is_term(term[1:]), False, term)

    def test_lists_in_the_place_of_tuples(self):
        for term in TERMS:
            self.assertIs(is_term(list(term)), False, term)
            for place in range(len(term)):
                if isinstance(term[place], tuple):
                    amiss = term[:place] + (list(term[place]),) + term[place + 1:]
                    self.assertIs(is_term(amiss), False, amiss)

    def test_other_words(self):
        for word in ("", "At", "kind", "app", "shape\n", "open", "take", None, 0, (), [], {}, ("at",)):
            for rest in ((0,), ("a", ()), ("run", NAT, NAT), ("a", "b", ())):
                self.assertIs(is_term((word,) + rest), False, word)

    def test_amiss_within(self):
        for term in TERMS:
            for spot in spots_of(term):
                for amiss in (None, 0, "a", (), [], {}, ("at", True), ["at", 0], ("at", -1), ("world", 10)):
                    self.assertIs(is_term(put_at(term, spot, amiss)), False, (term, spot, amiss))

    def test_deep_and_great(self):
        self.assertIs(is_term(deep_term(44)), True)
        self.assertIs(is_term(put_at(deep_term(44), (0,) * 43, ("at", False))), False)
        self.assertIs(is_term(wide_term(19000)), True)
        self.assertIs(is_term(("call", "wide", (("at", 0),) * 9000 + (("at", -1),))), False)
        self.assertIs(is_term(nested(90, lambda thing: ("family", "list", (thing,)) if thing else ("at", 0))), True)

    def test_nothing_handed_in_is_changed(self):
        for thing in (["at", 0], {"at": [1]}, ("call", "a", [["at", 0]]), [[{}]], ("to", "run", [NAT], NAT)):
            kept = copy.deepcopy(thing)
            self.assertIs(is_term(thing), False)
            self.assertEqual(thing, kept)


def put_at(term, spot, thing):
    """The term with anything at a spot, built apart from the program."""
    if spot == ():
        return thing
    if term[0] in ("to", "fun", "give"):
        parts = list(term[2:])
    else:
        parts = list(term[-1])
    parts[spot[0]] = put_at(parts[spot[0]], spot[1:], thing)
    if term[0] in ("to", "fun", "give"):
        return term[:2] + tuple(parts)
    return term[:-1] + (tuple(parts),)


BIG = ("fun", "run", ("to", "gone", ("at", 0), ("at", 1)), ("give", "run", ("at", 0), ("call", "f", (ZERO, ("at",
    2)))))


class PartsTest(unittest.TestCase):
    def test_parts_of_each_word(self):
        for term in LEAVES:
            self.assertEqual(parts_of(term), ())
        one, other = ("at", 1), ("world", 2)
        for word in ("to", "fun", "give"):
            self.assertEqual(parts_of((word, "run", one, other)), (one, other))
        for parts in ((), (one,), (one, other, one)):
            self.assertEqual(parts_of(("family", "a", parts)), parts)
            self.assertEqual(parts_of(("call", "a", parts)), parts)
            self.assertEqual(parts_of(("shape", "a", "b", parts)), parts)

    def test_spots_rise(self):
        self.assertEqual(spots_of(BIG), ((), (0,), (0, 0), (0, 1), (1,), (1, 0), (1, 1), (1, 1, 0), (1, 1, 1)))
        wide = wide_term(13)
        self.assertEqual(spots_of(wide), ((),) + tuple((k,) for k in range(12)))
        for term in TERMS + (BIG, wide, deep_term(40), wide_term(400)):
            self.assertEqual(spots_of(term), tuple(sorted(spots_of(term))))

    def test_sizes(self):
        for term in LEAVES + (NAT, ZERO, ("call", "x", ())):
            self.assertEqual((size_of(term), spots_of(term)), (1, ((),)))
        self.assertEqual(size_of(BIG), 9)
        self.assertEqual(size_of(deep_term(40)), 40)
        self.assertEqual(size_of(wide_term(400)), 400)
        for term in TERMS:
            self.assertEqual(size_of(term), len(spots_of(term)))

    def test_part_at_each_spot(self):
        self.assertEqual(part_at(BIG, ()), BIG)
        self.assertEqual(part_at(BIG, (0,)), ("to", "gone", ("at", 0), ("at", 1)))
        self.assertEqual(part_at(BIG, (0, 1)), ("at", 1))
        self.assertEqual(part_at(BIG, (1, 1)), ("call", "f", (ZERO, ("at", 2))))
        self.assertEqual(part_at(BIG, (1, 1, 1)), ("at", 2))
        self.assertEqual(part_at(deep_term(40), (0,) * 39), ("at", 0))
        self.assertEqual(part_at(deep_term(40), (0,) * 10), deep_term(30))
        self.assertEqual(part_at(("call", "f", (("at", 0),) * 398 + (NAT,)), (398,)), NAT)

    def test_with_part_at_each_spot(self):
        for term in TERMS + (BIG, deep_term(40)):
            for spot in spots_of(term):
                for part in (("at", 9), BIG):
                    self.assertEqual(with_part(term, spot, part), put_at(term, spot, part))
                self.assertEqual(with_part(term, spot, part_at(term, spot)), term)
        wide = wide_term(400)
        self.assertEqual(parts_of(with_part(wide, (398,), NAT)), (("at", 0),) * 398 + (NAT,))

    def test_by_names(self):
        self.assertEqual(part_at(term=BIG, spot=(0, 1)), ("at", 1))
        self.assertEqual(with_part(term=BIG, spot=(), part=NAT), NAT)
        self.assertIs(is_open(term=("at", 3), number=3), True)
        self.assertEqual((size_of(term=NAT), spots_of(term=NAT), parts_of(term=NAT), holes_in(term=NAT)),
                         (1, ((),), (), ()))
        self.assertEqual((is_name(thing="a"), is_far(thing="a"), is_term(thing=NAT)), (True, False, True))

    def test_no_spot(self):
        amiss = [(2,), (-1,), (0, 2), (0, -1), (0, 0, 0), (1, 1, 2), (True,), (False,), (0, True), (1, True), (None,),
                 ("0",), ((0,),), ([],), ({},), [0], [], "", "0", None, 0, 1, True, False, {}, {0: 1}, (10 ** 39,),
                 (0,) * 90, (0,) * 19000, nested(89, lambda thing: (thing,)), [[0]]]
        amiss.extend([thing for thing in ODD_THINGS if thing != ()])
        for spot in amiss:
            for asked in (lambda: part_at(BIG, spot), lambda: with_part(BIG, spot, NAT)):
                with self.assertRaises(NoSpot) as caught:
                    asked()
                self.assertIs(caught.exception.spot, spot)
                self.assertIsInstance(caught.exception, Absent)
                self.assertIsInstance(caught.exception, KeyError)
        for term in LEAVES + (NAT, ZERO):
            for spot in ((0,), (1,), (-1,), (False,)):
                self.assertRaises(NoSpot, part_at, term, spot)
                self.assertRaises(NoSpot, with_part, term, spot, NAT)


class OpenTest(unittest.TestCase):
    def asked(self, term, numbers):
        for number in range(14):
            self.assertIs(is_open(term, number), number in numbers, (term, number))

    def test_ats(self):
        self.asked(("at", 0), (0,))
        self.asked(("at", 3), (3,))
        self.asked(("call", "f", (("at", 5), ("at", 2))), (2, 5))
        for term in (("world", 3), ("hole", "a"), NAT, ZERO):
            self.asked(term, ())

    def test_beneath_bodies(self):
        for word in ("to", "fun"):
            self.asked((word, "run", ("at", 4), ("at", 4)), (3, 4))
            self.asked((word, "gone", ("at", 0), ("at", 0)), (0,))
            self.asked((word, "run", NAT, ("at", 0)), ())
            self.asked((word, "run", NAT, (word, "run", ("at", 1), ("at", 2))), (0,))
            self.asked((word, "run", NAT, (word, "run", ("at", 0), ("at", 1))), ())
            self.asked((word, "run", (word, "run", ("at", 0), ("at", 3)), ("at", 7)), (0, 2, 6))

    def test_beneath_several_bodies(self):
        term = ("at", 12)
        for many in range(10):
            self.asked(term, (12 - many,))
            term = ("fun", "run", NAT, term)

    def test_gives_add_no_names(self):
        self.asked(("give", "run", ("at", 1), ("at", 2)), (1, 2))


class HolesTest(unittest.TestCase):
    def test_rising_each_once(self):
        b, a, c = ("hole", "b"), ("hole", "a"), ("hole", "c")
        self.assertEqual(holes_in(b), ("b",))
        self.assertEqual(holes_in(("call", "f", (b, a, c, a, b))), ("a", "b", "c"))
        self.assertEqual(holes_in(("to", "run", c, ("fun", "gone", b, ("give", "run", a, c)))), ("a", "b", "c"))
        self.assertEqual(holes_in(("shape", "n", "s", (("family", "x", (b,)),))), ("b",))
        self.assertEqual(holes_in(("call", "f", (("hole", "ab"), ("hole", "b"), ("hole", "a")))), ("a", "ab", "b"))
        for term in (("at", 0), ("world", 1), NAT, BIG):
            self.assertEqual(holes_in(term), ())


class GreatTermsTest(unittest.TestCase):
    """What was told may be handed in again, however great: far deeper than calls nest, too."""

    def test_thousands_deep(self):
        term = ("at", 5)
        many = 0
        while many < 3000:
            term = with_part(with_part(deep_term(40), (0,) * 39, ("fun", "run", NAT, NAT)), (0,) * 39 + (1,), term)
            many = many + 40
        self.assertIs(is_term(term), True)
        self.assertEqual(size_of(term), 75 * 41 + 1)
        self.assertIs(is_open(term, 5), False)
        self.assertIs(is_open(("fun", "run", NAT, ("at", 6)), 5), True)
        self.assertEqual(holes_in(term), ())
        self.assertEqual(part_at(term, spots_of(term)[-1]), ("at", 5))


if __name__ == "__main__":
    unittest.main()
