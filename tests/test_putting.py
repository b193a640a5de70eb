import unittest
from itertools import product

from kindsbyworth.putting import Measured, put_in, shifted
from kindsbyworth.terms import is_open, is_term, measures, part_at, size_of
from tests.samples import NAT, TERMS, ZERO, deep_term, number, wide_term

OPEN = ("call", "f", (("at", 0), ("at", 1), ("at", 2), ("at", 3)))


def under(many, term):
    """The term beneath so many bodies."""
    for turn in range(many):
        term = (("fun", "to")[turn % 2], "run", NAT, term)
    return term


def small_terms():
    """Terms with a few names, of each word that binds and some that don't."""
    leaves = [("at", 0), ("at", 1), ("at", 2), ("world", 0)]
    pairs = list(product(leaves, leaves))
    small = leaves + [(word, "run", one, other) for word in ("to", "fun", "give") for one, other in pairs]
    small.extend([("shape", "p", "two", pair) for pair in pairs])
    return small + [("fun", "gone", one, other) for one in small[::7] for other in small[::5]]


class ShiftedTest(unittest.TestCase):
    def test_names_of_bodies_stay(self):
        self.assertEqual(shifted(("fun", "run", ("at", 0), ("at", 0)), 3), ("fun", "run", ("at", 3), ("at", 0)))
        self.assertEqual(shifted(("to", "gone", ("at", 1), ("at", 1)), 2), ("to", "gone", ("at", 3), ("at", 3)))
        inner = ("fun", "run", ("at", 1), ("call", "f", (("at", 0), ("at", 1), ("at", 2))))
        wanted = ("fun", "run", ("at", 6), ("call", "f", (("at", 0), ("at", 1), ("at", 7))))
        self.assertEqual(shifted(("to", "run", NAT, inner), 5), ("to", "run", NAT, wanted))

    def test_each_word(self):
        one, moved = ("at", 1), ("at", 5)
        self.assertEqual(shifted(one, 4), moved)
        for make in (lambda part: ("give", "gone", part, part), lambda part: ("family", "a", (part, ZERO)),
                     lambda part: ("call", "a", (NAT, part)), lambda part: ("shape", "a", "b", (part, part)),
                     lambda part: ("to", "run", part, NAT), lambda part: ("fun", "run", part, NAT)):
            self.assertEqual(shifted(make(one), 4), make(moved))
        for term in (("world", 9), ("hole", "a"), NAT, ZERO, ("call", "x", ())):
            self.assertEqual(shifted(term, 4), term)

    def test_by_nought(self):
        for term in TERMS + (deep_term(40), wide_term(400)):
            self.assertEqual(shifted(term, 0), term)

    def test_shifts_add_up(self):
        for term in small_terms():
            self.assertEqual(shifted(shifted(term, 2), 3), shifted(term, 5))
            for number in range(4):
                self.assertIs(is_open(shifted(term, 2), number + 2), is_open(term, number))
            self.assertFalse(is_open(shifted(term, 2), 0) or is_open(shifted(term, 2), 1))

    def test_by_names(self):
        self.assertEqual(shifted(term=("at", 0), many=2), ("at", 2))


class PutInTest(unittest.TestCase):
    def test_none(self):
        for term in TERMS + (OPEN,):
            self.assertEqual(put_in(term, ()), term)

    def test_one(self):
        self.assertEqual(put_in(OPEN, (ZERO,)), ("call", "f", (ZERO, ("at", 0), ("at", 1), ("at", 2))))

    def test_the_last_comes_for_the_nearest(self):
        self.assertEqual(put_in(OPEN, (NAT, ZERO)), ("call", "f", (ZERO, NAT, ("at", 0), ("at", 1))))
        self.assertEqual(put_in(OPEN, (("world", 1), NAT, ZERO)), ("call", "f", (ZERO, NAT, ("world", 1), ("at", 0))))
        four = (("world", 1), ("world", 2), ("world", 3), ("world", 4))
        self.assertEqual(put_in(OPEN, four), ("call", "f", four[::-1]))

    def test_far_ones_are_so_many_less(self):
        self.assertEqual(put_in(("at", 12), (NAT, ZERO)), ("at", 10))
        self.assertEqual(put_in(under(3, ("at", 12)), (NAT, ZERO)), under(3, ("at", 10)))

    def test_beneath_bodies(self):
        for many in range(5):
            ats = [("at", number) for number in range(many + 3)]
            put = [("at", number) for number in range(many)] + [ZERO, NAT, ("at", many)]
            self.assertEqual(put_in(under(many, ("call", "f", tuple(ats))), (NAT, ZERO)),
                             under(many, ("call", "f", tuple(put))))

    def test_open_terms_are_shifted(self):
        for many in range(5):
            open_one = ("fun", "run", ("at", 1), ("call", "g", (("at", 0), ("at", 1))))
            moved = ("fun", "run", ("at", 1 + many), ("call", "g", (("at", 0), ("at", 1 + many))))
            self.assertEqual(put_in(under(many, ("at", many)), (open_one,)), under(many, moved))
            self.assertEqual(put_in(under(many, ("at", many + 1)), (open_one, NAT)), under(many, moved))

    def test_kinds_are_beneath_no_body(self):
        term = ("to", "gone", ("at", 0), ("at", 0))
        self.assertEqual(put_in(term, (("at", 4),)), ("to", "gone", ("at", 4), ("at", 0)))
        term = ("fun", "gone", ("at", 1), ("at", 1))
        self.assertEqual(put_in(term, (("at", 4),)), ("fun", "gone", ("at", 0), ("at", 5)))

    def test_put_into_what_was_shifted_is_as_it_was(self):
        for term in small_terms() + [deep_term(40), wide_term(400)]:
            for many in range(4):
                self.assertEqual(put_in(shifted(term, many), (ZERO,) * many), term)

    def test_together_is_one_behind_another(self):
        terms = small_terms()
        for body in terms:
            for one, other in ((("at", 0), ("at", 2)), (terms[9], terms[-1]), (terms[-2], terms[20])):
                apart = put_in(put_in(body, (shifted(other, 1),)), (one,))
                self.assertEqual(put_in(body, (one, other)), apart)
                self.assertIs(is_term(apart), True)

    def test_greatest(self):
        made = put_in(wide_term(400), (wide_term(400),))
        self.assertEqual(size_of(made), 1 + 399 * 400)
        made = put_in(under(39, ("at", 39)), (deep_term(40),))
        self.assertEqual(part_at(made, (1,) * 39), shifted(deep_term(40), 39))
        for _ in range(40):
            made = put_in(under(39, ("at", 39)), (made,))
        self.assertEqual(part_at(made, (1,) * 39 * 41 + (0,) * 39), ("at", 39 * 41))

    def test_by_names(self):
        self.assertEqual(put_in(body=("at", 0), terms=(NAT,)), NAT)


def plainly_shifted(term, many, bodies=0):
    """By the words of the document alone, as deep as Python's calls may go."""
    if term[0] == "at":
        return ("at", term[1] + many) if term[1] >= bodies else term
    if term[0] in ("fun", "to"):
        return term[:2] + (plainly_shifted(term[2], many, bodies), plainly_shifted(term[3], many, bodies + 1))
    if term[0] == "give":
        return term[:2] + (plainly_shifted(term[2], many, bodies), plainly_shifted(term[3], many, bodies))
    if isinstance(term[-1], tuple):
        return term[:-1] + (tuple(plainly_shifted(part, many, bodies) for part in term[-1]),)
    return term


class DeepTest(unittest.TestCase):
    def test_beneath_many_bodies(self):
        for inner in (("at", 0), ("at", 30), ("at", 99), ("at", 100), ("at", 150), ("hole", "a"), ("world", 0)):
            term = inner
            for turn in range(200):
                term = (("fun", "run", ("at", turn), term), ("call", "f", (("at", turn), term, ("at", 99))),
                        ("to", "gone", term, ("at", 1)), ("give", "run", term, ("at", turn)))[turn % 4]
            self.assertEqual(shifted(term, 7), plainly_shifted(term, 7))
            self.assertEqual(shifted(put_in(term, (NAT,)), 7), plainly_shifted(put_in(term, (NAT,)), 7))
            self.assertEqual(put_in(shifted(term, 1), (NAT,)), term)

    def test_put_in_beneath_many_bodies(self):
        for depth in (10, 39, 40, 41, 42, 100):
            body = under(depth, ("call", "f", (("at", depth), ("at", depth + 1), ("at", depth - 1), ("at", depth + 2))))
            wanted = under(depth, ("call", "f", (("at", depth + 5), ZERO, ("at", depth - 1), ("at", depth))))
            self.assertEqual(put_in(body, (ZERO, ("at", 5))), wanted)


def put_measures(body, terms):
    """The measures of the body with these terms put in, as far as what is told of the body alone tells them."""
    told = Measured(body)
    size, depth = told.size, told.depth
    for name, (times, deepest) in told.names.items():
        if name < len(terms):
            inner, within = measures(terms[len(terms) - 1 - name])
            size = size + times * (inner - 1)
            depth = max(depth, deepest + within)
    return size, depth


class MeasuresTest(unittest.TestCase):
    def test_as_though_put_in(self):
        terms = TERMS + (number(5), ("fun", "run", ("at", 0), ("fun", "run", ("at", 1), ("call", "x", (("at", 2), ("at", 0))))))
        for body in terms:
            for one in terms:
                self.assertEqual(put_measures(body, ()), measures(body))
                self.assertEqual(put_measures(body, (one,)), measures(put_in(body, (one,))))
                self.assertEqual(put_measures(body, (one, number(3))), measures(put_in(body, (one, number(3)))))


if __name__ == "__main__":
    unittest.main()
