import copy
import unittest

from kindsbyworth.erasing import erased, erased_scope
from kindsbyworth.itemtexts import read_item
from kindsbyworth.judging import judged
from kindsbyworth.scopes import Scope
from tests.library import item, scope_of, t, whole
from tests.samples import NAT, number
from tests.test_judging import made

SCOPE = whole()
DULL = ("dull",)
TAKE = ("take",)
PASS = ("pass",)
ZERO = ("shape", "zero", ())


def at(k):
    return ("at", k)


def shape(name, *parts):
    return ("shape", name, parts)


def bare(many):
    term = ZERO
    for _ in range(many):
        term = shape("next", term)
    return term


class TermTest(unittest.TestCase):
    def told(self, text, wanted, around=(), scope=SCOPE):
        term = t(text)
        kept = copy.deepcopy(term)
        self.assertEqual(erased(scope, term, around=tuple(around)), wanted)
        self.assertEqual(term, kept)

    def test_at_counts_run_names_alone(self):
        self.told("@0", at(0), ["run"])
        self.told("@1", at(0), ["run", "gone"])
        self.told("@2", at(1), ["run", "gone", "run"])
        self.told("@2", at(2), ["run", "run", "run", "gone"][:3])
        self.told("@4", at(2), ["run", "gone", "run", "gone", "run"])
        self.told("@3", at(1), ["gone", "run", "gone", "run", "gone"])

    def test_funs(self):
        self.told("(fun run N @0)", ("fun", at(0)))
        self.told("(fun gone N 0)", ("wait", ZERO))
        self.told("(fun run N (fun gone N (fun run N @2)))", ("fun", ("wait", ("fun", at(1)))))
        self.told("(fun run N (fun gone N (fun run N @0)))", ("fun", ("wait", ("fun", at(0)))))
        self.told("(fun gone N @1)", ("wait", at(0)), ["run"])
        self.told("(fun run N @1)", ("fun", at(1)), ["run"])

    def test_gives(self):
        self.told("(give run @1 @0)", ("give", at(1), at(0)), ["run", "run"])
        self.told("(give gone @1 @0)", ("go", at(0)), ["run", "gone"])
        self.told("(give gone (fun gone N 0) (call add 1 2))", ("go", ("wait", ZERO)))

    def test_shapes_by_their_own_names_without_gone_arguments_and_params(self):
        self.told("2", bare(2))
        self.told("(shape list nil N)", shape("nil"))
        self.told("(shape list cons N 0 (shape list nil N))", shape("cons", ZERO, shape("nil")))
        self.told("(shape vec some N 1 0 (shape vec none N))", shape("some", ZERO, shape("none")))
        self.told("(shape box boxed N 3)", shape("boxed"))
        self.told("(shape eq same N 3)", shape("same"))
        self.told("(shape fin further 1 (shape fin first 0))", shape("further", shape("first")))

    def test_calls(self):
        self.told("(call add 0 1)", ("call", "add", (ZERO, bare(1))))
        self.told("(call append N 0 0 (shape vec none N) (shape vec none N))", ("call", "append", (shape("none"), shape("none"))))
        self.told("(call same N 1)", ("call", "same", (bare(1),)))
        self.told("(call sym N 1 1 (shape eq same N 1))", ("call", "sym", (shape("same"),)))

    def test_calls_of_open_items_by_the_marks_of_their_telescopes(self):
        scope = SCOPE.with_item(("open", "wish", (("run", NAT), ("gone", NAT), ("run", NAT)), NAT))
        self.told("(call wish 0 1 2)", ("call", "wish", (ZERO, bare(2))), scope=scope)

    def test_dull(self):
        for text in ("N", "!0", "!8", "(to run N N)", "(to gone !0 @0)", "(family vec N 2)"):
            self.told(text, DULL)
        self.told("(fun run !0 (to run @0 @1))", ("fun", DULL))
        self.told("(call same !0 N)", ("call", "same", (DULL,)))

    def test_far_names(self):
        scope = Scope((read_item("family base.1.box 0\nparam !0\nshape boxed\ntake run @0"),))
        self.told("(shape base.1.box boxed N N)", shape("boxed", DULL), scope=scope)

    def test_deep(self):
        self.assertEqual(erased(SCOPE, number(3000))[2][0][2][0][:2], ("shape", "next"))
        term = number(0)
        for _ in range(2000):
            term = ("fun", "gone", NAT, term)
        told = erased(SCOPE, term)
        for _ in range(2000):
            self.assertEqual(told[0], "wait")
            told = told[1]
        self.assertEqual(told, ZERO)

    def test_no_names_around_and_by_names(self):
        self.assertEqual(erased(scope=SCOPE, term=t("(fun run N @0)")), ("fun", at(0)))
        self.assertEqual(erased(scope=SCOPE, term=at(1), around=("run", "gone")), at(0))
        self.assertRaises(TypeError, erased, SCOPE, t("0"), ())


class ScopeTest(unittest.TestCase):
    def told(self, wanted, *lines, scope=SCOPE):
        """The definitions of these lines erased, by the Scope with them."""
        thing = made(*lines)
        judged(scope, thing)
        told = erased_scope(scope.with_item(thing))
        names = [definition[0] for definition in told]
        self.assertEqual(names, sorted(names))
        self.assertEqual(tuple([one for one in told if one[0] not in [kept[0] for kept in erased_scope(scope)]]), wanted)

    def test_definitions_by_names_rising(self):
        self.assertEqual([definition[0] for definition in erased_scope(SCOPE)],
                         ["add", "append", "even", "head", "kindby", "never", "odd", "pred", "same", "sym", "twice"])
        self.assertEqual(erased_scope(Scope()), ())
        self.assertEqual(erased_scope(scope_of("nat", "list")), ())

    def test_add(self):
        self.assertEqual(erased_scope(scope=scope_of("nat", "add")), (("add", 2, (
            ((shape("zero"), TAKE), at(0)),
            ((shape("next", TAKE), TAKE), shape("next", ("call", "add", (at(1), at(0))))))),))

    def test_run_places_alone(self):
        found = {definition[0]: definition for definition in erased_scope(SCOPE)}
        self.assertEqual(found["append"], ("append", 2, (
            ((shape("none"), TAKE), at(0)),
            ((shape("some", TAKE, TAKE), TAKE), shape("some", at(2), ("call", "append", (at(1), at(0))))))))
        self.assertEqual(found["head"], ("head", 1, (((shape("some", TAKE, TAKE),), at(1)),)))
        self.assertEqual(found["sym"], ("sym", 1, (((shape("same"),), shape("same")),)))
        self.assertEqual(found["kindby"], ("kindby", 1, (((shape("yes"),), DULL), ((shape("no"),), DULL))))
        self.assertEqual(found["never"], ("never", 1, ()))
        self.assertEqual(found["same"], ("same", 1, (((TAKE,), at(0)),)))

    def test_no_arguments_left(self):
        self.told((("f", 0, (((), ZERO),)),), "define f -", "take gone N", "result N", "row *", "body 0")

    def test_due_passes(self):
        self.told((("f", 2, (((PASS, shape("same")), ZERO),)),),
                  "define f -", "take run N", "take run (family eq N @0 0)", "result N", "row - (same)", "body 0")
        self.told((("f", 1, (((shape("same"),), ZERO),)),),
                  "define f -", "take gone N", "take run (family eq N @0 0)", "result N", "row - (same)", "body 0")

    def test_takes_at_gone_places_are_not_counted(self):
        self.told((("f", 2, (((TAKE, TAKE), shape("next", at(1))),)),),
                  "define f -", "take gone N", "take run N", "take gone N", "take run N", "take gone N", "result N",
                  "row * * * * *", "body (S @3)")

    def test_shapes_of_two_families_of_one_name(self):
        scope = SCOPE.with_item(made("family one 0", "shape s", "take gone N", "take run N"))
        scope = scope.with_item(made("family two 0", "shape s", "take run N", "take gone N"))
        self.told((("f", 2, (((shape("s", TAKE), shape("s", TAKE)), ("call", "add", (at(1), at(0)))),)),),
                  "define f -", "take run (family one)", "take run (family two)", "result N", "row (s * *) (s * *)",
                  "body (call add @2 @1)", scope=scope)
        scope = scope.with_item(made("define by -", "take run B", "result !0", "row (yes)", "body (family one)", "row (no)", "body (family two)"))
        self.told((("f", 2, (((shape("yes"), shape("s", TAKE)), at(0)), ((shape("no"), shape("s", TAKE)), at(0)))),),
                  "define f -", "take run B", "take run (call by @0)", "result N", "row (yes) (s * *)", "body @0",
                  "row (no) (s * *)", "body @1", scope=scope)
        # What is solved tells the family.
        self.told((("f", 3, (((TAKE, shape("same"), shape("s", TAKE)), at(0)),)),),
                  "define f -", "take gone B", "take run N", "take run (family eq B @1 F)", "take run (call by @2)", "result N",
                  "row - * (same) (s * *)", "body @1", scope=scope)

    def test_patterns_within_patterns(self):
        self.told((("f", 1, (((shape("some", TAKE, shape("some", TAKE, TAKE)),), at(2)),)),),
                  "define f -", "take gone N", "take run (family vec N (S (S @0)))", "result N", "row * (some - * (some - * *))", "body @2")

    def test_waiting_lots_and_open_items(self):
        rows_out = ("lot", (("f", (("run", NAT), ("gone", NAT)), NAT, None, ()),))
        self.assertEqual(erased_scope(scope_of("nat").with_item(rows_out)), (("f", 1, ()),))
        scope = SCOPE.with_item(("open", "wish", (("run", NAT), ("gone", NAT)), NAT))
        self.assertEqual(erased_scope(scope), erased_scope(SCOPE))
        lot = ("lot", (("f", (("run", NAT),), NAT, None, (((TAKE,), ("call", "wish", (at(0), at(0)))),)),))
        self.assertIn(("f", 1, (((TAKE,), ("call", "wish", (at(0),))),)), erased_scope(scope.with_item(lot)))

    def test_the_same_told_again_and_nothing_changed(self):
        self.assertEqual(erased_scope(SCOPE), erased_scope(whole()))
        self.assertEqual(SCOPE, whole())
        self.assertEqual(item("add"), item("add"))


if __name__ == "__main__":
    unittest.main()
