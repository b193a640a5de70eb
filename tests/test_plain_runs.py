"""Runs and outcomes near the bounds, held against the words of the document alone."""

import random
import sys
import unittest

from kindsbyworth.errors import TooGreat, TooLong, TooMuch
from kindsbyworth.itemtexts import read_item
from kindsbyworth.kinds import kind_of
from kindsbyworth.reckoning import outcome_way
from kindsbyworth.running import run_of
from kindsbyworth.steps import step_at, walked
from kindsbyworth.terms import measures, part_at, spots_of, with_part
from tests.library import t, whole
from tests.plainrun import plain_run
from tests.samples import NAT, ZERO, number
from tests.test_reckoning import plain_way

LINES = ("define {} 0\ntake run (family nat)\ntake run (family nat)\nresult (family nat)\nrow (zero) *\nbody @0\nrow (next *) *\nbody {}",
         "define {} 0\ntake run (family nat)\ntake run (family list (family nat))\nresult (family list (family nat))\nrow (zero) *\nbody @0\n"
         "row (next *) *\nbody {}",
         "define {} 0\ntake run (family nat)\ntake gone (family nat)\nresult (family box (family nat))\nrow (zero) *\n"
         "body (shape box boxed (family nat) @0)\nrow (next *) *\nbody {}",
         "define {} 0\ntake run (family nat)\ntake run (family tree)\nresult (family tree)\nrow (zero) *\nbody @0\nrow (next *) *\nbody {}")
SCOPE = whole()
for lines, name, body in zip(LINES, ("grow", "pile", "wrap", "build"), (
        "(call grow @1 (call add @0 @0))", "(call pile @1 (shape list cons (family nat) (call twice @1) @0))",
        "(call wrap @1 (call add @0 (shape nat next @0)))", "(call build @1 (shape tree node (fun run (family nat) @1)))")):
    SCOPE = SCOPE.with_item(read_item(lines.format(name, body)))
MANY = (0, 1, 2, 3, 5, 8, 12, 18, 19, 20, 25, 30, 36, 37, 38, 39, 40, 41)
BODIES = [t(text) for text in ("(call add @0 @0)", "(S (S (S @0)))", "(call add @0 (call add @0 @0))", "@0",
                               "(give gone (fun gone N 0) (S (S @0)))", "(give run (fun run N (call add @0 @1)) (S @0))")]


def some_number(chance, levels):
    """A term of a number, which may be too great."""
    word = chance.choice(("add", "grow", "twice", "pred", "next", "give", "number"))
    if levels == 0 or word == "number":
        return number(chance.choice(MANY))
    one, other = some_number(chance, levels - 1), some_number(chance, levels - 1)
    if word == "next":
        return ("shape", "nat", "next", (one,))
    if word == "give":
        return ("give", "run", ("fun", "run", NAT, chance.choice(BODIES)), one)
    return ("call", word, (one,) if word in ("twice", "pred") else (one, other))


def some_term(chance):
    """A term of the Scope's that is let by."""
    one, other = some_number(chance, 1), some_number(chance, 1)
    return chance.choice((
        some_number(chance, 3), some_number(chance, 2), ("call", "wrap", (one, other)), ("call", "build", (one, ("shape", "tree", "leaf", ()))),
        ("call", "pile", (one, ("shape", "list", "nil", (NAT,)))),
        ("shape", "list", "cons", (NAT, one, ("shape", "list", "cons", (NAT, other, ("shape", "list", "nil", (NAT,))))))))


def told(do):
    try:
        return do()
    except TooMuch as refused:
        return refused.__class__.__name__, vars(refused)


class PlainRunsTest(unittest.TestCase):
    def setUp(self):
        self.limit = sys.getrecursionlimit()
        sys.setrecursionlimit(20000)

    def tearDown(self):
        sys.setrecursionlimit(self.limit)

    def test_runs(self):
        chance = random.Random(12)
        found = {}
        for _ in range(700):
            term = some_term(chance)
            kind_of(SCOPE, term)
            for most in (1, 3, 30, 300):
                wanted = told(lambda: plain_run(SCOPE, term, most))
                self.assertEqual(told(lambda: run_of(SCOPE, term, most=most)), wanted)
                found[wanted[0] if isinstance(wanted[0], str) else "worth"] = True
        self.assertEqual(sorted(found), ["TooGreat", "TooLong", "worth"])

    def test_runs_of_terms_without_bounds_at_hand(self):
        chance = random.Random(13)
        for _ in range(60):
            inner, most = some_term(chance), chance.choice((1, 7, 2000))
            body = ("fun", "run", NAT, chance.choice(BODIES))
            term = ("give", "run", body, ("give", "run", body, ("give", "run", body, some_number(chance, 1))))
            for one in (inner, term):
                self.assertEqual(told(lambda: run_of(SCOPE, one, most=most)), told(lambda: plain_run(SCOPE, one, most)))

    def test_outcomes(self):
        chance = random.Random(14)
        some = 0
        while some < 60:
            term = some_term(chance)
            if measures(term)[0] > 45:
                continue
            some = some + 1
            most = chance.choice((2, 9, 40))
            try:
                way, outcome = plain_way_within(term, most)
            except TooMuch as refused:
                self.assertEqual(told(lambda: outcome_way(SCOPE, term, most=most)), (refused.__class__.__name__, vars(refused)))
            else:
                self.assertEqual(outcome_way(SCOPE, term, most=most), (way, outcome))
                self.assertEqual(walked(SCOPE, term, way), outcome)

    def test_steps_in_any_order(self):
        chance = random.Random(15)
        for _ in range(300):
            term = here = some_term(chance)
            way = []
            while len(way) < 5:
                spots = [spot for spot in spots_of(here) if part_at(here, spot)[0] in ("call", "give")]
                spot = chance.choice(spots) if spots else ()
                try:
                    made = step_at(SCOPE, here, spot)
                except TooGreat as refused:
                    self.assertTrue(refused.size > 400 or measures(here)[1] > 30)
                    self.assertIsNone(walked(SCOPE, term, tuple(way) + (spot,)))
                    break
                if made is None:
                    break
                way.append(spot)
                here = made
                self.assertEqual(walked(SCOPE, term, tuple(way)), here)
            for odd in ((9,), (True,), None, "", [0]):
                self.assertIsNone(walked(SCOPE, term, tuple(way) + (odd,)))

    def test_terms_beyond_bounds_at_first(self):
        great = ("shape", "list", "nil", (NAT,))
        for at in range(30):
            great = ("shape", "list", "cons", (NAT, number(15), great))
        with self.assertRaises(TooGreat) as caught:
            step_at(SCOPE, ("shape", "list", "cons", (NAT, t("(call add 0 1)"), great)), (1,))
        self.assertGreater(caught.exception.size, 400)
        drop = ("give", "run", ("fun", "run", ("family", "list", (NAT,)), ZERO), great)
        self.assertEqual(step_at(SCOPE, drop, ()), ZERO)
        self.assertEqual(outcome_way(SCOPE, drop), (((),), ZERO))
        deep = number(60)
        self.assertEqual(step_at(SCOPE, ("give", "run", ("fun", "run", NAT, ZERO), deep), ()), ZERO)
        with self.assertRaises(TooGreat) as caught:
            step_at(SCOPE, ("call", "pred", (deep,)), ())
        self.assertEqual(caught.exception.size, 60)


def plain_way_within(term, most):
    """As plain_way, with TooLong where there are more steps than most."""
    steps = []

    def stands(scope, here):
        steps.append(here)
        return False

    try:
        way, outcome = plain_way(SCOPE, term, stands)
    except TooGreat:
        if len(steps) > most:
            raise TooLong(most)
        raise
    if len(way) > most:
        raise TooLong(most)
    return way, outcome


if __name__ == "__main__":
    unittest.main()
