import unittest

from kindsbyworth.errors import TooGreat, TooMuch
from kindsbyworth.itemtexts import read_item
from kindsbyworth.putting import put_in
from kindsbyworth.scopes import Scope
from kindsbyworth.steps import step_at, walked
from kindsbyworth.terms import size_of, spots_of
from kindsbyworth.termtexts import read_term, show_term
from tests.samples import (
    ADD, DUE, LISTS, NAT, NATS, ODD_THINGS, TAKE, VECS, ZERO, deep_term, nested, next_of, number, shaped, wide_term,
)

W0 = ("world", 0)
SCOPE = Scope((NATS, LISTS, VECS, ADD))


def table(name, many, *rows):
    """A definition, as a lot, of so many arguments."""
    return ("lot", ((name, (("run", W0),) * many, W0, None, rows),))


def call(name, *terms):
    return ("call", name, terms)


def pair(*terms):
    return ("family", "pair", terms)


class StepTest(unittest.TestCase):
    def steps(self, scope, term, made):
        """A step at the term itself comes to this, and likewise with terms around it."""
        self.assertEqual(step_at(scope, term, ()), made)
        self.assertEqual(walked(scope, term, ((),)), made)
        for around, spot in ((lambda part: pair(W0, part, W0), (1,)), (lambda part: ("to", "gone", W0, part), (1,)),
                             (lambda part: ("fun", "run", part, W0), (0,)),
                             (lambda part: next_of(next_of(part)), (0, 0)), (lambda part: call("waits", part), (0,)),
                             (lambda part: ("give", "run", part, W0), (0,))):
            wanted = None if made is None else around(made)
            self.assertEqual(step_at(scope, around(term), spot), wanted)
            self.assertEqual(walked(scope, around(term), (spot,)), wanted)

    def waits(self, scope, term):
        self.steps(scope, term, None)


class GiveTest(StepTest):
    def test_both_marks(self):
        for mark in ("run", "gone"):
            fun = ("fun", mark, NAT, pair(("at", 0), ("at", 1), ("fun", "run", ("at", 0), ("at", 1))))
            wanted = pair(ZERO, ("at", 0), ("fun", "run", ZERO, ZERO))
            self.steps(SCOPE, ("give", mark, fun, ZERO), wanted)
            self.steps(Scope(), ("give", mark, fun, ZERO), wanted)

    def test_marks_that_differ(self):
        for mark, other in (("run", "gone"), ("gone", "run")):
            self.waits(SCOPE, ("give", mark, ("fun", other, NAT, ("at", 0)), ZERO))

    def test_given_to_what_is_no_fun(self):
        for mark in ("run", "gone"):
            for function in (("at", 0), ("to", mark, NAT, ("at", 0)), NAT, call("waits"), ("hole", "a"),
                             ("give", mark, ("fun", mark, NAT, ("at", 0)), ZERO)):
                self.assertIsNone(step_at(SCOPE, ("give", mark, function, ZERO), ()))

    def test_open_arguments(self):
        argument = ("fun", "run", ("at", 2), ("at", 3))
        body = ("fun", "run", NAT, ("give", "run", ("at", 1), ("at", 4)))
        wanted = ("fun", "run", NAT, ("give", "run", ("fun", "run", ("at", 3), ("at", 4)), ("at", 3)))
        self.steps(SCOPE, ("give", "gone", ("fun", "gone", NAT, body), argument), wanted)

    def test_what_stands_without_a_step(self):
        for term in (("at", 0), W0, NAT, ZERO, ("hole", "a"), ("to", "run", NAT, NAT), ("fun", "run", NAT, ("at", 0)),
                     number(3)):
            self.waits(SCOPE, term)

    def test_only_at_its_spot(self):
        give = ("give", "run", ("fun", "run", NAT, ("at", 0)), ZERO)
        term = pair(give, ("fun", "gone", W0, give))
        for spot in spots_of(term):
            wanted = {(0,): pair(ZERO, term[2][1]), (1, 1): pair(give, ("fun", "gone", W0, ZERO))}.get(spot)
            self.assertEqual(step_at(SCOPE, term, spot), wanted)


class CallTest(StepTest):
    def test_add(self):
        self.steps(SCOPE, call("add", ZERO, number(2)), number(2))
        self.steps(SCOPE, call("add", number(2), ("at", 4)), next_of(call("add", number(1), ("at", 4))))
        self.steps(SCOPE, call("add", next_of(("at", 3)), ("at", 1)), next_of(call("add", ("at", 3), ("at", 1))))
        self.waits(SCOPE, call("add", ("at", 0), ZERO))
        self.waits(SCOPE, call("add", call("add", ZERO, ZERO), ZERO))

    def test_what_is_taken_is_put_in_in_order(self):
        taken = ((shaped("some", TAKE, DUE, TAKE), DUE, TAKE), pair(("at", 0), ("at", 1), ("at", 2), ("at", 3)))
        scope = Scope((NATS, VECS, table("f", 3, taken)))
        some = ("shape", "vec", "some", (NAT, number(1), number(2), number(3)))
        self.steps(scope, call("f", some, number(4), number(5)), pair(number(5), number(3), number(1), ("at", 0)))

    def test_bodies_of_rows_are_put_into_beneath_bodies(self):
        scope = Scope((table("f", 2, ((TAKE, TAKE), ("fun", "run", ("at", 1), pair(("at", 0), ("at", 1), ("at",
            2))))),))
        self.steps(scope, call("f", ("at", 5), ("at", 6)),
                   ("fun", "run", ("at", 5), pair(("at", 0), ("at", 7), ("at", 6))))

    def test_due_takes_anything_and_gives_nothing(self):
        scope = Scope((NATS, table("f", 3, ((DUE, TAKE, DUE), pair(("at", 0), ("at", 1))))))
        for term in (ZERO, ("at", 9), W0, call("waits"), number(2), ("hole", "a")):
            self.steps(scope, call("f", term, number(1), term), pair(number(1), ("at", 0)))

    def test_take_takes_anything(self):
        scope = Scope((table("f", 1, ((TAKE,), ("at", 0))),))
        for term in (ZERO, ("at", 9), W0, call("waits"), ("give", "run", ("at", 0), ("at", 0)), ("hole", "a")):
            self.steps(scope, call("f", term), term)

    def test_no_arguments(self):
        scope = Scope((table("f", 0, ((), ZERO)),))
        self.steps(scope, call("f"), ZERO)
        self.waits(scope, call("f", ZERO))

    def test_the_first_row_that_takes(self):
        scope = Scope((NATS, table("f", 1, ((shaped("zero"),), ("world", 1)), ((shaped("next", DUE),), ("world", 2)),
                                   ((DUE,), ("world", 3)), ((DUE,), ("world", 4)))))
        self.steps(scope, call("f", ZERO), ("world", 1))
        self.steps(scope, call("f", number(1)), ("world", 2))
        self.waits(scope, call("f", ("at", 0)))
        scope = Scope((NATS, table("f", 1, ((DUE,), ("world", 3)), ((shaped("zero"),), ("world", 1)))))
        self.steps(scope, call("f", ZERO), ("world", 3))
        self.steps(scope, call("f", ("at", 0)), ("world", 3))

    def test_another_shape_then_the_next_row(self):
        scope = Scope((NATS, table("f", 2, ((TAKE, shaped("zero")), ("at", 0)), ((shaped("zero"), TAKE), ("at", 0)),
                                   ((TAKE, TAKE), pair(("at", 0), ("at", 1))))))
        self.steps(scope, call("f", number(2), ZERO), number(2))
        self.steps(scope, call("f", ZERO, number(2)), number(2))
        self.steps(scope, call("f", number(1), number(2)), pair(number(2), number(1)))
        self.waits(scope, call("f", number(1), ("at", 0)))
        self.waits(scope, call("f", ("at", 0), number(1)))
        self.steps(scope, call("f", ("at", 0), ZERO), ("at", 0))

    def test_another_shape_ahead_of_what_waits(self):
        # The first pattern shuts the row out, so what stands at the second isn't asked.
        scope = Scope((NATS, table("f", 2, ((shaped("zero"), shaped("zero")), W0), ((DUE, DUE), ("world", 1)))))
        self.steps(scope, call("f", number(1), ("at", 0)), ("world", 1))
        self.waits(scope, call("f", ("at", 0), number(1)))
        self.waits(scope, call("f", ZERO, ("at", 0)))
        self.steps(scope, call("f", ZERO, number(1)), ("world", 1))
        self.steps(scope, call("f", ZERO, ZERO), W0)

    def test_each_pattern_through_and_through_ahead_of_the_next(self):
        inner = shaped("next", shaped("zero"))
        scope = Scope((NATS, table("f", 2, ((inner, shaped("zero")), W0), ((DUE, DUE), ("world", 1)))))
        self.steps(scope, call("f", number(2), ("at", 0)), ("world", 1))
        self.waits(scope, call("f", next_of(("at", 3)), number(1)))
        self.waits(scope, call("f", next_of(("at", 3)), ZERO))
        self.waits(scope, call("f", number(1), ("at", 0)))
        self.steps(scope, call("f", number(1), ZERO), W0)
        self.steps(scope, call("f", number(1), number(4)), ("world", 1))
        self.steps(scope, call("f", ZERO, ("at", 0)), ("world", 1))

    def test_patterns_in_order_within_a_shape(self):
        two = ("family", "two", (), (), 0, (("both", (("run", NAT), ("run", NAT)), ()),))
        row = ((shaped("both", shaped("zero"), shaped("zero")),), W0)
        scope = Scope((NATS, two, table("f", 1, row, ((DUE,), ("world", 1)))))

        def both(one, other):
            return ("shape", "two", "both", (one, other))

        self.steps(scope, call("f", both(ZERO, ZERO)), W0)
        self.steps(scope, call("f", both(number(1), ("at", 0))), ("world", 1))
        self.waits(scope, call("f", both(("at", 0), number(1))))
        self.waits(scope, call("f", both(ZERO, ("at", 0))))

    def test_no_row_is_left(self):
        scope = Scope((NATS, table("f", 1, ((shaped("zero"),), W0)), table("g", 1)))
        self.waits(scope, call("f", number(1)))
        self.waits(scope, call("g", ZERO))

    def test_another_number_of_arguments(self):
        scope = Scope((table("f", 2, ((TAKE, TAKE), W0)),))
        self.steps(scope, call("f", ZERO, ZERO), W0)
        for terms in ((), (ZERO,), (ZERO, ZERO, ZERO)):
            self.waits(scope, call("f", *terms))

    def test_names_that_are_no_definition(self):
        opened = ("open", "wish", (), NAT)
        scope = Scope((NATS, opened, table("f", 0, ((), W0)), table("lib.1.f", 0, ((), ("world", 1)))))
        for name in ("g", "nat", "zero", "wish", "lib.2.f", "pib.1.f"):
            self.waits(scope, call(name))
        self.steps(scope, call("f"), W0)
        self.steps(scope, call("lib.1.f"), ("world", 1))
        self.waits(Scope(), call("f"))

    def test_each_definition_of_a_lot(self):
        rows = tuple((name, (), W0, None, (((), ("world", world)),)) for world, name in enumerate(("a", "b", "c")))
        scope = Scope((NATS, ("lot", rows), table("d", 0, ((), ("world", 3)))))
        for world, name in enumerate("abcd"):
            self.steps(scope, call(name), ("world", world))

    def test_params_are_left_out(self):
        scope = Scope((NATS, LISTS, table("f", 1, ((shaped("cons", TAKE, TAKE),), pair(("at", 0), ("at", 1))),
                                          ((shaped("nil"),), W0))))
        nil = ("shape", "list", "nil", (NAT,))
        self.steps(scope, call("f", ("shape", "list", "cons", (NAT, ZERO, nil))), pair(nil, ZERO))
        self.steps(scope, call("f", nil), W0)

    def test_shapes_that_are_none(self):
        scope = Scope((NATS, LISTS, table("f", 1, ((shaped("next", TAKE),), ("at", 0)), ((DUE,), W0)),
                       table("g", 1, ((shaped("nil"),), ("world", 1)), ((DUE,), W0))))
        self.steps(scope, call("f", next_of(ZERO)), ZERO)
        self.steps(scope, call("f", ZERO), W0)
        for none in (("shape", "nat", "next", ()), ("shape", "nat", "next", (ZERO, ZERO)),
                     ("shape", "nat", "zero", (ZERO,)), ("shape", "nat", "other", ()),
                     ("shape", "gnat", "next", (ZERO,)), ("shape", "gnat", "zero", ()),
                     ("shape", "f", "next", (ZERO,)), ("shape", "lib.1.nat", "next", (ZERO,)),
                     ("shape", "list", "nil", ()), ("shape", "list", "nil", (NAT, NAT)),
                     ("shape", "list", "next", (NAT, ZERO)), ("at", 0), W0, NAT, ("hole", "a"), ("hole", "nat"),
                     call("f"), call("nat", ZERO), ("give", "run", ("at", 0), ZERO), ("to", "run", NAT, NAT),
                     ("fun", "run", NAT, ("at", 0))):
            self.waits(scope, call("f", none))
            self.waits(scope, call("g", none))
        self.steps(scope, call("g", ("shape", "list", "nil", (NAT,))), ("world", 1))

    def test_a_pattern_of_its_name_with_another_number_of_patterns(self):
        row = ((shaped("next"),), ("world", 1))
        more = ((shaped("next", DUE, shaped("zero")),), ("world", 2))
        for rows in ((row,), (more,), (row, more)):
            self.waits(Scope((NATS, table("f", 1, *rows))), call("f", number(1)))
            scope = Scope((NATS, table("f", 1, *rows, ((TAKE,), ("at", 0)))))
            self.steps(scope, call("f", number(1)), number(1))
            self.steps(scope, call("f", ZERO), ZERO)
            self.waits(scope, call("f", ("at", 0)))

    def test_shapes_of_several_families(self):
        other = ("family", "gnat", (("gone", W0),), (), 0, (("next", (("run", W0),), ()), ("stop", (), ())))
        scope = Scope((NATS, other, table("f", 1, ((shaped("next", TAKE),), ("at", 0)), ((DUE,), W0))))
        self.steps(scope, call("f", number(3)), number(2))
        self.steps(scope, call("f", ("shape", "gnat", "next", (NAT, ZERO))), ZERO)
        self.steps(scope, call("f", ("shape", "gnat", "stop", (NAT,))), W0)
        self.waits(scope, call("f", ("shape", "gnat", "next", (NAT,))))
        self.waits(scope, call("f", ("shape", "gnat", "zero", (NAT,))))

    def test_by_texts(self):
        half = read_item("\n".join((
            "define half 0", "take run (family nat)", "result (family nat)", "row (zero)", "body (shape nat zero)",
            "row (next (zero))", "body (shape nat zero)", "row (next (next *))",
            "body (shape nat next (call half @0))",
        )))
        scope = SCOPE.with_item(half)
        five = "(shape nat next " * 5 + "(shape nat zero)" + ")" * 5
        behind = walked(scope, read_term(f"(call half {five})"), ((), (0,), (0, 0)))
        self.assertEqual(show_term(behind), "(shape nat next (shape nat next (shape nat zero)))")


class SpotsTest(StepTest):
    TERM = pair(call("add", ZERO, ZERO), W0)

    def test_spots_that_are_none(self):
        self.assertEqual(step_at(SCOPE, self.TERM, (0,)), pair(ZERO, W0))
        amiss = [(2,), (-1,), (False,), (0, 0, 0), (0, 2), ((0,),), [0], [], "", "0", None, 0, False, {}, {0: 0},
            (None,),
                 ("0",), ([0],), (10 ** 39,), (0,) * 90, nested(89, lambda thing: (thing,))]
        for spot in amiss + [thing for thing in ODD_THINGS if thing != ()]:
            self.assertIsNone(step_at(SCOPE, self.TERM, spot))
            self.assertIsNone(walked(SCOPE, self.TERM, (spot,)))
            self.assertIsNone(walked(SCOPE, self.TERM, ((0,), spot)))
            self.assertIsNone(walked(SCOPE, self.TERM, (spot, (0,))))
        self.assertIsNone(step_at(SCOPE, call("add", ZERO, ZERO), (False,)))

    def test_ways(self):
        term = call("add", number(2), number(1))
        self.assertEqual(walked(SCOPE, term, ()), term)
        self.assertEqual(walked(SCOPE, term, ((),)), next_of(call("add", number(1), number(1))))
        self.assertEqual(walked(SCOPE, term, ((), (0,))), next_of(next_of(call("add", ZERO, number(1)))))
        self.assertEqual(walked(SCOPE, term, ((), (0,), (0, 0))), number(3))
        for way in (((0,),), ((), ()), ((), (0,), (0,)), ((), (0,), (0, 0), (0, 0)), ((), (0,), (0, 0), ()),
                    ((0,), ()), ((), (1,))):
            self.assertIsNone(walked(SCOPE, term, way))

    def test_ways_that_are_none(self):
        term = call("add", number(2), number(1))
        for way in ODD_THINGS:
            if way not in ((), ((),)):
                self.assertIsNone(walked(SCOPE, term, way))
        for way in ([], [()], None, 0, True, "", {}, {(): 0}, ([],), ((), [0]), ((), None), ("",), ((), (False,)),
                    (0,)):
            self.assertIsNone(walked(SCOPE, term, way))
        self.assertIsNone(walked(SCOPE, W0, []))
        self.assertEqual(walked(SCOPE, W0, ()), W0)

    def test_without_a_step_nothing_is_too_great(self):
        for term in (wide_term(500), deep_term(60)):
            self.assertEqual(walked(SCOPE, term, ()), term)
            self.assertIsNone(step_at(SCOPE, term, ()))

    def test_by_names(self):
        term = call("add", ZERO, ZERO)
        self.assertEqual(step_at(scope=SCOPE, term=term, spot=()), ZERO)
        self.assertEqual(walked(scope=SCOPE, term=term, way=((),)), ZERO)

    def test_the_same_is_told_the_same(self):
        term = call("add", number(2), number(1))
        told = [walked(SCOPE, term, ((), (0,), (0, 0))) for _ in range(3)]
        self.assertEqual(told, [number(3)] * 3)
        self.assertEqual(SCOPE, Scope((NATS, LISTS, VECS, ADD)))


class TooGreatTest(unittest.TestCase):
    def great(self, term, spot, size):
        with self.assertRaises(TooGreat) as caught:
            step_at(SCOPE, term, spot)
        self.assertEqual(caught.exception.size, size)
        self.assertIsInstance(caught.exception, TooMuch)
        self.assertIsNone(walked(SCOPE, term, (spot,)))

    def fun(self, body):
        return ("fun", "run", NAT, body)

    def test_sizes(self):
        # Behind the step stands a term of 201 + other - 1 spots.
        for other, size in ((200, 400), (201, 401), (300, 500)):
            term = ("give", "run", self.fun(pair(("at", 0), *(W0,) * 199)), wide_term(other))
            if size == 400:
                self.assertEqual(size_of(step_at(SCOPE, term, ())), 400)
                self.assertEqual(size_of(walked(SCOPE, term, ((),))), 400)
            else:
                self.great(term, (), size)

    def test_the_whole_term_counts(self):
        give = ("give", "run", self.fun(pair(("at", 0), ("at", 0))), wide_term(60))
        self.assertEqual(size_of(step_at(SCOPE, give, ())), 121)
        for more in range(276, 284):
            term = pair(give, *(W0,) * more)
            if more <= 278:
                self.assertEqual(size_of(step_at(SCOPE, term, (0,))), 122 + more)
            else:
                self.great(term, (0,), 122 + more)

    def test_many_times(self):
        term = ("give", "gone", ("fun", "gone", NAT, pair(*(("at", 0),) * 100)), wide_term(100))
        self.great(term, (), 1 + 100 * 100)

    def test_calls(self):
        scope = Scope((table("f", 1, ((TAKE,), pair(("at", 0), ("at", 0)))),))
        self.assertEqual(size_of(step_at(scope, call("f", wide_term(199)), ())), 399)
        with self.assertRaises(TooGreat) as caught:
            step_at(scope, call("f", wide_term(200)), ())
        self.assertEqual(caught.exception.size, 401)
        self.assertIsNone(walked(scope, call("f", wide_term(200)), ((),)))

    def test_depths(self):
        for above in range(1, 5):
            for levels in range(34, 42):
                body = ("at", 0)
                for _ in range(above):
                    body = next_of(body)
                term = ("give", "run", self.fun(body), deep_term(levels))
                if above + levels <= 41:
                    self.assertEqual(step_at(SCOPE, term, ()), put_in(body, (deep_term(levels),)))
                else:
                    self.great(term, (), above + levels)

    def test_depths_of_the_whole_term(self):
        give = ("give", "run", self.fun(("at", 0)), deep_term(30))
        for above in range(9, 14):
            term = give
            for _ in range(above):
                term = next_of(term)
            if above <= 11:
                self.assertEqual(size_of(step_at(SCOPE, term, (0,) * above)), above + 30)
            else:
                self.great(term, (0,) * above, above + 30)

    def test_other_spots_may_be_the_deepest(self):
        give = ("give", "run", self.fun(("at", 0)), ZERO)
        self.assertEqual(step_at(SCOPE, pair(give, deep_term(40)), (0,)), pair(ZERO, deep_term(40)))
        self.great(pair(give, deep_term(41)), (0,), 43)

    def test_ways_end_there(self):
        double = table("double", 1, ((TAKE,), pair(("at", 0), ("at", 0))))
        scope = Scope((double,))
        term = call("double", call("double", wide_term(132)))
        self.assertEqual(size_of(walked(scope, term, ((0,),))), 266)
        self.assertIsNone(walked(scope, term, ((0,), ())))
        self.assertRaises(TooGreat, step_at, scope, walked(scope, term, ((0,),)), ())

    def test_a_step_that_makes_less_of_what_is_too_great(self):
        drops = ("fun", "run", NAT, W0)
        self.great(pair(("give", "run", drops, ZERO), *(W0,) * 500), (0,), 502)
        self.assertEqual(step_at(SCOPE, ("give", "run", drops, wide_term(1000)), ()), W0)


if __name__ == "__main__":
    unittest.main()
