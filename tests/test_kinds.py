import copy
import random
import unittest

from kindsbyworth.errors import TongueError, TooGreat, TooLong, Unjudged
from kindsbyworth.kinds import fit, kind_of
from kindsbyworth.putting import shifted
from kindsbyworth.reckoning import are_alike, outcome_way
from kindsbyworth.scopes import Scope
from kindsbyworth.steps import step_at
from kindsbyworth.terms import part_at, spots_of, with_part
from tests.library import scope_of, t, tele, whole
from tests.samples import LEAVES, NAT, ZERO, next_of, number

SCOPE = whole()
W0 = ("world", 0)
ENDLESS = t("(give run (fun run N (give run @0 @0)) (fun run N (give run @0 @0)))")
# Terms that have a kind with no name around, in manner run.
JUDGED = (
    "0", "3", "N", "!0", "!8", "Y", "(family list N)", "(to run N N)", "(to gone !0 (to run @0 @1))", "(fun run N @0)",
    "(fun gone !0 (fun run @0 @0))", "(give run (fun run N (S @0)) 2)", "(give gone (fun gone !0 (fun run @0 @0)) N)",
    "(call add 1 2)", "(fun run N (call add @0 @0))", "(shape list cons N 1 (shape list nil N))",
    "(shape vec some N 0 2 (shape vec none N))", "(shape vec some N (call add 0 0) 2 (shape vec none N))",
    "(call append N 1 0 (shape vec some N 0 2 (shape vec none N)) (shape vec none N))", "(call kindby Y)",
    "(call head N 0 (shape vec some N 0 2 (shape vec none N)))", "(shape eq same N 2)", "(call sym N 2 2 (shape eq same N 2))",
    "(call sym N 2 (call add 1 1) (shape eq same N 2))", "(shape tree node (fun run N (shape tree leaf)))",
    "(fun gone !0 (fun gone @0 (shape eq same @1 @0)))", "(shape fin further 2 (shape fin first 1))",
    "(fun run (to run N (call kindby Y)) (give run @0 1))", "(shape box boxed N (call add 1 1))",
    "(to run (call kindby F) (call kindby Y))", "(fun gone N (shape box boxed N @0))", "(call even 3)",
    "(give run (give gone (fun gone !0 (fun run @0 @0)) N) 2)", "(fun run (call kindby Y) (S @0))", "(call same N 3)",
    "(fun gone N (fun run (family eq N @0 @0) (call sym N @1 @1 @0)))", "(call kindby (call even 2))",
)


class Refusing(unittest.TestCase):
    def refused(self, spot, word, text, around=(), manner="run", scope=SCOPE):
        with self.assertRaises(Unjudged) as caught:
            kind_of(scope, t(text) if isinstance(text, str) else text, around=around, manner=manner)
        self.assertEqual((caught.exception.spot, caught.exception.word), (spot, word))
        self.assertIsInstance(caught.exception, TongueError)

    def unfit(self, spot, word, text, kind, around=(), manner="run", scope=SCOPE):
        with self.assertRaises(Unjudged) as caught:
            fit(scope, t(text), t(kind), around=around, manner=manner)
        self.assertEqual((caught.exception.spot, caught.exception.word), (spot, word))

    def told(self, text, kind, around=(), manner="run", scope=SCOPE):
        self.assertEqual(kind_of(scope, t(text), around=around, manner=manner), t(kind))

    def fits(self, text, kind, around=(), manner="run", scope=SCOPE):
        self.assertIsNone(fit(scope, t(text), t(kind), around=around, manner=manner))


class AtWorldTest(Refusing):
    def test_at(self):
        around = tele("gone !0", "run @0", "run (family list @1)", "gone (family eq @2 @1 @1)")
        self.told("@2", "@3", around)
        self.told("@1", "(family list @3)", around)
        for manner in ("run", "gone"):
            self.told("@0", "(family eq @3 @2 @2)", around[:3] + (("run", around[3][1]),), manner)
        self.assertEqual(kind_of(SCOPE, ("at", 0), around=around, manner="gone"), shifted(around[3][1], 1))
        self.assertEqual(kind_of(SCOPE, ("at", 3), around=around, manner="gone"), W0)
        self.assertEqual(kind_of(SCOPE, ("at", 2), around=around), ("at", 3))

    def test_at_refused(self):
        around = tele("gone !0", "run @0")
        self.refused((), "gone", "@1", around)
        self.refused((), "around", "@2", around)
        self.refused((), "around", "@2", around, "gone")
        self.refused((), "around", "@0")
        self.refused((1,), "around", "(fun run N @1)")
        self.refused((1,), "gone", "(fun gone N @0)")
        self.refused((0, 0), "around", "(call add (S @0) @1)")
        self.refused((), "around", ("at", 10 ** 40))

    def test_world(self):
        for manner in ("run", "gone"):
            for k in range(9):
                self.assertEqual(kind_of(SCOPE, ("world", k), manner=manner), ("world", k + 1))
            self.refused((), "world", "!9", manner=manner)
        self.refused((1,), "world", "(to run N !9)")
        self.refused((0,), "world", "(fun run !9 @0)")
        self.refused((), "world", "!9", scope=Scope())


class ToFunTest(Refusing):
    def test_to(self):
        for mark in ("run", "gone"):
            self.told(f"(to {mark} N N)", "!0")
            self.told(f"(to {mark} !0 N)", "!1")
            self.told(f"(to {mark} N !3)", "!4")
            self.told(f"(to {mark} !2 !1)", "!3")
            self.told(f"(to {mark} !0 @0)", "!1")
            self.told(f"(to {mark} (call kindby Y) (call kindby F))", "!0")

    def test_both_parts_of_a_to_in_manner_gone(self):
        around = tele("gone !0")
        self.told("(to run @0 @1)", "!0", around)
        self.told("(to gone !0 (to gone @0 @2))", "!1", around)
        self.told("(to gone N (family eq N @0 @0))", "!2")

    def test_to_refused(self):
        self.refused((0,), "kind", "(to run 0 N)")
        self.refused((1,), "kind", "(to run N 0)")
        self.refused((1,), "kind", "(to run N @0)")
        self.refused((0,), "kind", "(to run 0 @9)")
        self.refused((1,), "around", "(to run N @9)")
        self.refused((0, 0), "around", "(to run (family list @0) 0)")
        self.refused((1, 1), "kind", "(to run N (to run N 0))")

    def test_fun(self):
        for mark in ("run", "gone"):
            self.told(f"(fun {mark} N 0)", f"(to {mark} N N)")
            self.told(f"(fun {mark} !0 N)", f"(to {mark} !0 !0)")
        self.told("(fun gone !0 (fun run @0 @0))", "(to gone !0 (to run @0 @1))")
        self.told("(fun run (call kindby Y) @0)", "(to run (call kindby Y) (call kindby Y))")

    def test_a_fun_s_kind_in_manner_gone_its_body_in_the_same(self):
        around = tele("gone !0", "gone N")
        self.told("(fun run @1 @0)", "(to run @1 @2)", around)
        self.refused((1,), "gone", "(fun run @1 @1)", around)
        self.told("(fun run @1 @1)", "(to run @1 N)", around, "gone")
        self.refused((1,), "gone", "(fun gone N @0)")
        self.told("(fun gone N @0)", "(to gone N N)", manner="gone")

    def test_fun_refused(self):
        self.refused((0,), "kind", "(fun run 0 @9)")
        self.refused((0,), "around", "(fun run @0 @9)")
        self.refused((1,), "around", "(fun run N @1)")


class GiveTest(Refusing):
    def test_give(self):
        self.told("(give run (fun run N 0) 1)", "N")
        self.told("(give gone (fun gone !0 (fun run @0 @0)) N)", "(to run N N)")
        self.told("(give gone (fun gone N (shape eq same N 0)) 1)", "(family eq N 0 0)")
        self.told("(give run @0 2)", "(family vec N 2)", tele("run (to run N (family vec N @0))"))
        self.told("(give run @0 2)", "N", tele("run (call same !0 (to run N N))"))

    def test_the_head_of_the_function_s_kind(self):
        around = tele("run (give gone (fun gone !0 (to run @0 N)) B)")
        self.told("(give run @0 Y)", "N", around)
        self.refused((1,), "unlike", "(give run @0 0)", around)

    def test_give_refused(self):
        self.refused((0,), "to", "(give run 0 1)")
        self.refused((0,), "to", "(give run 0 @9)")
        self.refused((0,), "mark", "(give run (fun gone N 0) 1)")
        self.refused((0,), "mark", "(give gone (fun run N 0) @9)")
        self.refused((1,), "unlike", "(give run (fun run N 0) Y)")
        self.refused((0, 0), "to", "(give run (give run 0 @9) @9)")
        self.refused((0,), "around", "(give run @0 @9)")
        self.refused((1, 0), "unlike", "(give run (fun run N 0) (S Y))")

    def test_manners_of_a_give(self):
        around = tele("gone N", "gone (to gone N N)", "gone (to run N N)")
        self.refused((1,), "gone", "(give run (fun run N 0) @2)", around)
        self.told("(give gone (fun gone N 0) @2)", "N", around)
        self.refused((0,), "gone", "(give gone @1 0)", around)
        self.told("(give gone @1 @2)", "N", around, "gone")
        self.told("(give run @0 @2)", "N", around, "gone")


class TableTest(Refusing):
    def test_family(self):
        self.told("N", "!0")
        self.told("(family list N)", "!1")
        self.told("(family vec B (call add 1 @0))", "!1", tele("run N"))
        self.told("(family eq N 0 1)", "!2")
        self.told("(family vec @1 @0)", "!1", tele("gone !0", "gone N"))

    def test_shape(self):
        self.told("Y", "B")
        self.told("(shape list nil (call kindby Y))", "(family list (call kindby Y))")
        self.told("(shape vec none B)", "(family vec B 0)")
        self.told("(shape vec some B 1 Y @0)", "(family vec B 2)", tele("run (family vec B 1)"))
        self.told("(shape eq same N (call add 1 1))", "(family eq N (call add 1 1) (call add 1 1))")

    def test_call(self):
        self.told("(call add 0 1)", "N")
        self.told("(call append N 1 0 (shape vec some N 0 7 (shape vec none N)) (shape vec none N))",
                  "(family vec N (call add 1 0))")
        self.told("(call kindby @0)", "!0", tele("run B"))

    def test_no_name(self):
        for text in ("(family absent 0)", "(shape absent zero)", "(call absent @9)", "(shape nat absent @9)",
                     "(call nat)", "(family add)", "(shape add zero)", "(call zero)", "(family next)",
                     "(shape list next @9)", "(family a.1.nat)", "(call a.1.add 0 0)"):
            self.refused((), "name", text)
        self.refused((1,), "name", "(call add 0 (call absent @9))")
        self.refused((), "name", "N", scope=Scope())

    def test_many(self):
        for text in ("(family nat 0)", "(family list)", "(family vec N)", "(family vec N 0 0)", "(shape nat zero @9)",
                     "(shape nat next)", "(shape list nil)", "(shape list cons N 0)", "(call add 0)",
                     "(call add @9 @9 @9)", "(call kindby)"):
            self.refused((), "many", text)

    def test_one_by_one(self):
        self.refused((0,), "unlike", "(call add Y @9)")
        self.refused((1,), "around", "(call add 0 @9)")
        self.refused((0,), "unlike", "(family vec 0 Y)")
        self.refused((1,), "unlike", "(family vec N Y)")
        self.refused((1,), "unlike", "(shape list cons B 0 (shape list nil N))")
        self.refused((2,), "unlike", "(shape list cons N 0 (shape list nil B))")
        self.refused((3,), "unlike", "(shape vec some N 1 0 (shape vec none N))")
        self.refused((3,), "unlike", "(call append N 1 0 (shape vec none N) (shape vec none N))")
        self.refused((4,), "unlike", "(call append N 0 1 (shape vec none N) (shape vec none N))")
        self.refused((0,), "unlike", "(family list !0)")
        self.refused((2,), "unlike", "(family eq N 0 Y)")

    def test_manners(self):
        around = tele("gone N", "gone !0", "gone B")
        self.refused((0,), "gone", "(S @2)", around)
        self.told("(S @2)", "N", around, "gone")
        self.refused((0,), "gone", "(call add @2 0)", around)
        self.told("(call add @2 @2)", "N", around, "gone")
        self.told("(shape box boxed N @2)", "(family box N)", around)
        self.told("(shape list nil @1)", "(family list @1)", around)
        self.told("(family eq N @2 @2)", "!2", around)
        self.told("(call sym N @2 @2 (shape eq same N @2))", "(family eq N @2 @2)", around)
        self.refused((2, 1), "gone", "(shape list cons N 0 (shape list cons N @2 (shape list nil N)))", around)

    def test_open_items(self):
        scope = SCOPE.with_item(("open", "wish", (), NAT))
        self.refused((), "name", "(call wish)", scope=scope)
        self.refused((0,), "name", "(S (call wish))", scope=scope)
        self.unfit((), "name", "(call wish)", "N", scope=scope)
        self.refused((), "name", "(family wish)", scope=scope)

    def test_holes(self):
        self.refused((), "wish", "?a")
        self.refused((0,), "wish", "(S ?a)")
        self.refused((1,), "wish", "(fun run N ?a)")
        self.refused((0,), "wish", "(give run ?a 0)")
        self.unfit((), "wish", "?a", "N")
        self.unfit((1,), "wish", "(fun run N ?a)", "(to run N N)")


class FitTest(Refusing):
    def test_alike_kinds(self):
        self.fits("0", "N")
        self.fits("0", "(call kindby Y)")
        self.fits("N", "!0")
        self.fits("(shape vec some N 0 5 (shape vec none N))", "(family vec N (call add 1 0))")
        self.fits("(call add @0 1)", "N", tele("run N"))
        self.fits("@0", "(call kindby @1)", tele("run B", "run (call kindby @0)"))

    def test_unlike(self):
        self.unfit((), "unlike", "0", "B")
        self.unfit((), "unlike", "0", "(call kindby F)")
        self.unfit((), "unlike", "N", "!1")
        self.unfit((), "unlike", "(S 0)", "!0")
        self.unfit((0,), "unlike", "(S Y)", "B")
        self.unfit((), "unlike", "(to run N N)", "!1")

    def test_a_fun_beneath_a_to(self):
        self.fits("(fun run N @0)", "(to run N N)")
        self.fits("(fun run (call kindby Y) @0)", "(to run N (call kindby Y))")
        self.fits("(fun run N @0)", "(to run (call kindby Y) N)")
        self.fits("(fun run N (fun gone N @1))", "(to run N (to gone N N))")
        self.fits("(fun run N 0)", "(give gone (fun gone !0 (to run @0 N)) N)")
        # The body fits the to's body, which the kind by which it is judged may not be.
        self.fits("(fun run N (shape eq same N @0))", "(to run N (family eq N @0 (call add 0 @0)))")

    def test_a_fun_beneath_a_to_refused(self):
        self.unfit((0,), "unlike", "(fun run B @9)", "(to run N N)")
        self.unfit((0,), "kind", "(fun run 0 @9)", "(to run N N)")
        self.unfit((0,), "around", "(fun run @0 @9)", "(to run N N)")
        self.unfit((1,), "unlike", "(fun run N @0)", "(to run N B)")
        self.unfit((1, 0), "unlike", "(fun run N (S Y))", "(to run N N)")
        self.unfit((1, 0), "unlike", "(fun run N (fun run B 0))", "(to run N (to run N N))")
        self.unfit((1,), "gone", "(fun gone N @0)", "(to gone N N)")
        self.fits("(fun gone N @0)", "(to gone N N)", manner="gone")

    def test_a_fun_by_another_kind(self):
        self.unfit((), "unlike", "(fun run N @0)", "N")
        self.unfit((), "unlike", "(fun run N 0)", "(to gone N N)")
        self.unfit((0,), "kind", "(fun run 0 0)", "(to gone N N)")
        self.unfit((1,), "around", "(fun run N @5)", "N")
        self.unfit((), "unlike", "(fun run N 0)", "@0", tele("gone !0"))

    def test_what_is_no_fun_beneath_a_to(self):
        self.fits("(give run (fun run N (fun run N @0)) 0)", "(to run N N)")
        self.fits("(give run (fun run N (fun run N @0)) 0)", "(to run (call kindby Y) N)")
        self.unfit((), "unlike", "(give run (fun run N (fun run N @0)) 0)", "(to run B N)")
        self.unfit((), "unlike", "(to run N N)", "(to run N N)")

    def test_a_fun_beneath_what_is_no_to(self):
        self.unfit((), "unlike", "(fun run N @0)", "(give run @0 0)", tele("run (to run N !0)"))
        self.unfit((1,), "around", "(fun run B @7)", "(give run @0 0)", tele("run (to run N !0)"))

    def test_a_fun_s_own_kind_goes_around_its_body(self):
        self.fits("(fun run (call kindby Y) (fun run (family eq N @0 @0) @0))",
                  "(to run N (to run (family eq N @0 @0) (family eq N @1 @1)))")

    def test_around_and_manner(self):
        around = tele("gone !0", "gone @0")
        self.unfit((), "gone", "@0", "@1", around)
        self.fits("@0", "@1", around, "gone")
        self.fits("(shape box boxed @1 @0)", "(family box @1)", around)


class BoundsTest(Refusing):
    def test_too_long(self):
        with self.assertRaises(TooLong) as caught:
            fit(SCOPE, ZERO, ENDLESS)
        self.assertEqual(caught.exception.most, 2000)
        with self.assertRaises(TooLong) as caught:
            fit(SCOPE, t("(fun run N 0)"), ENDLESS, most=17)
        self.assertEqual(caught.exception.most, 17)
        with self.assertRaises(TooLong) as caught:
            kind_of(SCOPE, t("(call sym N 9 (call add 5 4) (shape eq same N 9))"), most=5)
        self.assertEqual(caught.exception.most, 5)
        self.told("(call sym N 9 (call add 5 4) (shape eq same N 9))", "(family eq N (call add 5 4) 9)")
        self.assertEqual(kind_of(SCOPE, t("(call add (call add 9 9) (call add 9 9))"), most=1), NAT)

    def test_too_great(self):
        with self.assertRaises(TooGreat) as caught:
            fit(SCOPE, ZERO, ("give", "run", ("fun", "run", NAT, next_of(("at", 0))), number(40)))
        self.assertEqual(caught.exception.size, 42)

    def test_what_was_told(self):
        self.assertEqual(kind_of(SCOPE, outcome_way(SCOPE, t("(call twice (call add 9 9))"))[1]), NAT)
        deep = number(3000)
        self.assertEqual(kind_of(SCOPE, deep), NAT)
        self.assertIsNone(fit(SCOPE, deep, t("(call kindby Y)")))
        with self.assertRaises(Unjudged) as caught:
            fit(SCOPE, with_part(deep, (0,) * 3000, t("Y")), NAT)
        self.assertEqual((caught.exception.spot, caught.exception.word), ((0,) * 3000, "unlike"))
        for around in (lambda term: ("to", "run", NAT, term), lambda term: ("to", "gone", term, NAT)):
            kinds = NAT
            for _ in range(1500):
                kinds = around(kinds)
            self.assertEqual(kind_of(SCOPE, kinds), W0)
        funs, gives, kind = ZERO, ("fun", "run", NAT, ("at", 0)), NAT
        for _ in range(1000):
            funs, kind = ("fun", "run", NAT, funs), ("to", "run", NAT, kind)
            gives = ("give", "run", t("(fun run (to run N N) @0)"), gives)
        self.assertTrue(are_alike(SCOPE, kind_of(SCOPE, funs), kind))
        self.assertIsNone(fit(SCOPE, funs, kind))
        self.assertEqual(kind_of(SCOPE, gives), t("(to run N N)"))


class WholeTest(Refusing):
    def test_no_names_around_and_manner_run_where_none_is_told(self):
        around = tele("gone N")
        for asked in (lambda **more: kind_of(SCOPE, ("at", 0), **more), lambda **more: fit(SCOPE, ("at", 0), NAT, **more)):
            for more, word in (({}, "around"), ({"manner": "gone"}, "around"), ({"around": around}, "gone")):
                with self.assertRaises(Unjudged) as caught:
                    asked(**more)
                self.assertEqual((caught.exception.spot, caught.exception.word), ((), word))

    def test_by_names_and_unchanged(self):
        around = tele("run N")
        self.assertEqual(kind_of(scope=SCOPE, term=("at", 0), around=around, manner="gone", most=9), NAT)
        self.assertIsNone(fit(scope=SCOPE, term=("at", 0), kind=NAT, around=around, manner="run", most=9))
        self.assertRaises(TypeError, kind_of, SCOPE, ZERO, ())
        self.assertRaises(TypeError, fit, SCOPE, ZERO, NAT, ())
        for text in JUDGED:
            term = t(text)
            kept = copy.deepcopy(term)
            self.assertEqual(kind_of(SCOPE, term), kind_of(whole(), kept))
            self.assertEqual(term, kept)
        self.assertEqual(SCOPE, whole())

    def test_each_step_keeps_the_kind(self):
        for text in JUDGED:
            left = [t(text)]
            kind = kind_of(SCOPE, left[0])
            for _ in range(60):
                if left:
                    term = left.pop()
                    made = [step_at(SCOPE, term, spot) for spot in spots_of(term)]
                    for one in [one for one in made if one is not None]:
                        self.assertTrue(are_alike(SCOPE, kind_of(SCOPE, one), kind))
                        self.assertIsNone(fit(SCOPE, one, kind))
                        left.append(one)

    def test_a_part_amiss_is_found_where_it_stands(self):
        """What has no kind, put in any place of a judged term, is refused at its spot or earlier."""
        chance = random.Random(3)
        for text in JUDGED:
            term = t(text)
            for spot in spots_of(term):
                amiss = chance.choice([("world", 9), ("at", 99), ("call", "absent", ()), ("hole", "h")])
                made = with_part(term, spot, amiss)
                with self.assertRaises(Unjudged) as caught:
                    kind_of(SCOPE, made)
                self.assertLessEqual(caught.exception.spot, spot)
                if caught.exception.spot == spot:
                    self.assertIn(caught.exception.word, ("world", "around", "name", "wish"))
                self.assertIsNotNone(part_at(made, caught.exception.spot))

    def test_small_scope(self):
        scope = scope_of("nat")
        for leaf in LEAVES:
            if leaf[0] == "world" and leaf[1] < 9:
                self.assertEqual(kind_of(scope, leaf), ("world", leaf[1] + 1))
            else:
                self.assertRaises(Unjudged, kind_of, scope, leaf)


if __name__ == "__main__":
    unittest.main()
