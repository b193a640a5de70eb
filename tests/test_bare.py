import copy
import itertools
import random
import unittest

from kindsbyworth.bare import bare_run
from kindsbyworth.erasing import erased, erased_scope
from kindsbyworth.errors import TongueError, TooGreat, TooLong
from kindsbyworth.kinds import kind_of
from kindsbyworth.running import run_of
from kindsbyworth.terms import part_at, spots_of, with_part
from tests.library import t, whole
from tests.samples import NAT, number
from tests.test_erasing import DULL, PASS, TAKE, ZERO, at, bare, shape
from tests.test_judging import made
from tests.test_kinds import ENDLESS, JUDGED

SCOPE = whole()
PROGRAM = erased_scope(SCOPE)
ID = ("fun", at(0))


def call(name, *parts):
    return ("call", name, parts)


def give(one, other):
    return ("give", one, other)


def same(one, other):
    """Whether deep bare terms are the same."""
    left = [(one, other)]
    while left:
        here, there = left.pop()
        if not isinstance(here, tuple) or not isinstance(there, tuple) or len(here) != len(there):
            if here != there:
                return False
        else:
            left.extend(zip(here, there))
    return True


class BareTest(unittest.TestCase):
    def told(self, term, worth, steps, program=PROGRAM):
        kept = copy.deepcopy(term)
        self.assertEqual(bare_run(program, term), (worth, steps))
        self.assertEqual(term, kept)
        if steps:
            self.assertEqual(bare_run(program, term, most=steps), (worth, steps))
        if steps > 1:
            with self.assertRaises(TooLong) as caught:
                bare_run(program, term, most=steps - 1)
            self.assertEqual(caught.exception.most, steps - 1)
            self.assertIsInstance(caught.exception, TongueError)

    def test_worths_as_they_stand(self):
        for term in (ID, ("fun", call("add", at(0), ZERO)), ("wait", call("add", ZERO, ZERO)), DULL, ZERO, bare(3), shape("pair", ID, DULL),
                     ("fun", ("fun", at(1))), ("wait", give(ID, ZERO))):
            self.told(term, term, 0)

    def test_gives_and_gos(self):
        self.told(give(ID, ZERO), ZERO, 1)
        self.told(("go", ("wait", ZERO)), ZERO, 1)
        self.told(("go", ("wait", give(ID, ZERO))), ZERO, 2)
        self.told(give(("fun", ("wait", at(0))), bare(2)), ("wait", bare(2)), 1)
        self.told(give(("fun", ("fun", at(1))), ID), ("fun", ID), 1)
        self.told(give(("fun", ("fun", shape("pair", at(0), at(1)))), bare(1)), ("fun", shape("pair", at(0), bare(1))), 1)
        self.told(give(give(("fun", ("fun", at(1))), bare(1)), bare(2)), bare(1), 2)
        self.told(give(give(("fun", ("fun", at(0))), bare(1)), bare(2)), bare(2), 2)
        self.told(("go", give(("fun", ("wait", shape("next", at(0)))), bare(1))), bare(2), 2)
        # Arguments are run once, ahead.
        self.told(give(("fun", shape("pair", at(0), at(0))), give(ID, ZERO)), shape("pair", ZERO, ZERO), 2)
        self.told(give(("fun", ZERO), give(ID, ZERO)), ZERO, 2)
        self.told(("go", ("wait", DULL)), DULL, 1)

    def test_what_is_put_in_beneath_bodies(self):
        inner = ("fun", ("wait", ("fun", shape("three", at(0), at(1), at(2)))))
        self.told(give(("fun", inner), bare(1)), ("fun", ("wait", ("fun", shape("three", at(0), at(1), bare(1))))), 1)
        self.told(give(("fun", ("fun", call("add", at(1), at(0)))), bare(1)), ("fun", call("add", bare(1), at(0))), 1)
        self.told(give(("fun", ("fun", ("go", ("wait", give(at(1), at(0)))))), ID), ("fun", ("go", ("wait", give(ID, at(0))))), 1)
        # What is put in may be a fun that holds what was put in it.
        keeps = give(("fun", ("fun", at(1))), bare(1))
        self.told(give(("fun", ("wait", at(0))), keeps), ("wait", ("fun", bare(1))), 2)

    def test_shapes_and_calls(self):
        self.told(call("add", bare(2), bare(3)), bare(5), 3)
        self.told(shape("pair", call("add", bare(1), ZERO), give(ID, ZERO)), shape("pair", bare(1), ZERO), 3)
        self.told(call("even", bare(4)), shape("yes"), 5)
        self.told(call("append", shape("some", bare(1), shape("none")), shape("none")), shape("some", bare(1), shape("none")), 2)
        self.told(call("head", shape("some", bare(1), shape("none"))), bare(1), 1)

    def test_rows(self):
        program = (("f", 2, (
            ((shape("a", TAKE), shape("b")), shape("first", at(0))),
            ((PASS, shape("b")), shape("second")),
            ((shape("a", shape("a", TAKE)), TAKE), shape("third", at(1), at(0))),
            ((TAKE, PASS), shape("last", at(0))))),)
        a, b, c = shape("a", shape("c")), shape("b"), shape("c")
        self.told(call("f", a, b), shape("first", c), 1, program)
        self.told(call("f", c, b), shape("second"), 1, program)
        self.told(call("f", shape("a", a), c), shape("third", c, c), 1, program)
        self.told(call("f", a, c), shape("last", a), 1, program)
        self.told(call("f", c, c), shape("last", c), 1, program)

    def test_pass_takes_anything_and_nothing_is_taken_of_it(self):
        program = (("f", 3, (((PASS, TAKE, PASS), at(0)),)),)
        for one in (ID, DULL, ("wait", ZERO), bare(2)):
            self.told(call("f", one, bare(1), one), bare(1), 1, program)

    def test_too_long(self):
        loop = give(("fun", give(at(0), at(0))), ("fun", give(at(0), at(0))))
        for most in (1, 2, 77, 2000):
            with self.assertRaises(TooLong) as caught:
                bare_run((), loop, most=most)
            self.assertEqual(caught.exception.most, most)
        with self.assertRaises(TooLong) as caught:
            bare_run((), loop)
        self.assertEqual(caught.exception.most, 2000)

    def test_never_too_great(self):
        self.assertRaises(TooGreat, run_of, SCOPE, t("(call add 30 30)"))
        self.told(call("add", bare(30), bare(30)), bare(60), 31)

    def test_thousands_deep(self):
        deep = bare(3000)
        told, steps = bare_run(PROGRAM, deep)
        self.assertTrue(same(told, deep) and steps == 0)
        told, steps = bare_run(PROGRAM, call("add", bare(1500), deep))
        self.assertTrue(same(told, bare(4500)))
        self.assertEqual(steps, 1501)
        told, steps = bare_run(PROGRAM, call("add", bare(1999), bare(4000)))
        self.assertTrue(same(told, bare(5999)))
        self.assertRaises(TooLong, bare_run, PROGRAM, call("add", bare(2000), ZERO))
        many = ZERO
        for _ in range(1900):
            many = give(ID, shape("next", many))
        told, steps = bare_run((), many)
        self.assertTrue(same(told, bare(1900)) and steps == 1900)
        funs = ZERO
        for _ in range(3000):
            funs = ("fun", ("wait", funs))
        self.assertTrue(same(bare_run((), funs)[0], funs))
        calls = at(0)
        for _ in range(2500):
            calls = call("f", calls)
        self.assertTrue(same(bare_run((), give(("fun", ("wait", calls)), ZERO))[0][1][2][0][2][0], bare_under(calls)))

    def test_ten_shapes_by_a_step(self):
        body = at(0)
        for _ in range(10):
            body = shape("next", body)
        program = (("f", 2, (((shape("zero"), TAKE), at(0)), ((shape("next", TAKE), TAKE), call("f", at(1), body)))),)
        told, steps = bare_run(program, call("f", bare(1999), ZERO))
        self.assertTrue(same(told, bare(19990)) and steps == 2000)

    def test_one_worth_in_another_many_times(self):
        body = call("f", at(1), shape("pair", at(0), at(0)))
        program = (("f", 2, (((shape("zero"), TAKE), at(0)), ((shape("next", TAKE), TAKE), body))),)
        told, steps = bare_run(program, call("f", bare(1500), ZERO))
        self.assertEqual(steps, 1501)
        for _ in range(1500):
            self.assertEqual(told[:2], ("shape", "pair"))
            told = told[2][1]
        self.assertEqual(told, ZERO)

    def test_by_names_and_the_same_again(self):
        self.assertEqual(bare_run(program=PROGRAM, term=call("add", ZERO, ZERO), most=1), (ZERO, 1))
        self.assertRaises(TypeError, bare_run, PROGRAM, ZERO, 1)
        self.assertEqual(PROGRAM, erased_scope(whole()))


def bare_under(calls):
    """The term of calls with zero for its name, two calls less."""
    made_of = ZERO
    for _ in range(2498):
        made_of = call("f", made_of)
    return made_of


class ErasedRunTest(unittest.TestCase):
    def goes_with(self, scope, term):
        """The erased run tells the erased worth in as many steps; whether the whole one told."""
        program = erased_scope(scope)
        try:
            worth, steps = run_of(scope, term)
        except TooGreat:
            return False
        self.assertEqual(bare_run(program, erased(scope, term)), (erased(scope, worth), steps))
        if steps > 1:
            self.assertRaises(TooLong, bare_run, program, erased(scope, term), most=steps - 1)
            self.assertRaises(TooLong, run_of, scope, term, most=steps - 1)
        return True

    def test_judged_terms(self):
        for text in JUDGED:
            self.assertTrue(self.goes_with(SCOPE, t(text)))

    def test_terms_put_together(self):
        chance = random.Random(8)
        terms = [t(text) for text in JUDGED]
        some = 0
        while some < 400:
            one = chance.choice(terms)
            spot = chance.choice(spots_of(one))
            term = with_part(one, spot, chance.choice(terms + [part_at(one, spot)]))
            try:
                kind_of(SCOPE, term)
            except TongueError:
                continue
            some = some + 1
            self.goes_with(SCOPE, term)

    def test_steps_one_by_one(self):
        for text in JUDGED:
            term = t(text)
            worth, steps = run_of(SCOPE, term)
            for most in range(1, steps):
                self.assertRaises(TooLong, run_of, SCOPE, term, most=most)
                self.assertRaises(TooLong, bare_run, PROGRAM, erased(SCOPE, term), most=most)

    def test_what_is_gone_is_never_run(self):
        endless = ("give", "gone", ("fun", "gone", NAT, number(1)), ENDLESS)
        self.assertEqual(run_of(SCOPE, endless), (number(1), 1))
        self.assertEqual(bare_run(PROGRAM, erased(SCOPE, endless)), (bare(1), 1))
        boxed = ("shape", "box", "boxed", (NAT, ENDLESS))
        self.assertEqual(run_of(SCOPE, boxed), (boxed, 0))
        self.assertEqual(bare_run(PROGRAM, erased(SCOPE, boxed)), (shape("boxed"), 0))

    def test_no_row_asks_what_is_erased(self):
        lines = ("define f 2", "take gone N", "take run (family vec N @0)", "take run N", "take gone N", "result N")
        scope = SCOPE.with_item(made(*lines, "row - (none) * *", "body @1", "row - (some * * *) (zero) *", "body @2",
                                     "row - (some * * *) (next *) *", "body (call add @1 @2)"))
        vec = "(shape vec none N)"
        for text in ("(call f 0 {} 2 3)", "(call f 1 (shape vec some N 0 1 {}) 0 0)", "(call f 1 (shape vec some N 0 1 {}) 2 (call add 1 1))"):
            term = t(text.format(vec))
            kind_of(scope, term)
            self.assertTrue(self.goes_with(scope, term))

    def test_every_pair_of_numbers(self):
        for one, other in itertools.product(range(4), repeat=2):
            self.assertTrue(self.goes_with(SCOPE, t(f"(call twice (call add {one} {other}))")))


if __name__ == "__main__":
    unittest.main()
