import copy
import unittest

from kindsbyworth.errors import Absent, Holed, TongueError, TooGreat, TooLong, TooMuch
from kindsbyworth.itemtexts import read_item
from kindsbyworth.kinds import fit, kind_of
from kindsbyworth.reckoning import are_alike, outcome_way
from kindsbyworth.running import run_of
from kindsbyworth.scopes import Scope
from kindsbyworth.terms import size_of
from tests.library import t, whole
from tests.samples import NAT, next_of, number
from tests.test_kinds import ENDLESS, JUDGED

SCOPE = whole()


def with_items(*texts):
    scope = SCOPE
    for text in texts:
        scope = scope.with_item(read_item(text))
    return scope


# Copies what it is given: of a number so many into a tree of twice as many.
GROW = """define grow 0
take run (family nat)
take run (family nat)
result (family nat)
row (zero) *
body @0
row (next *) *
body (call grow @1 (call add @0 @0))"""


class RunTest(unittest.TestCase):
    def run_told(self, text, worth, steps, scope=SCOPE):
        self.assertEqual(run_of(scope, t(text)), (t(worth), steps))
        if steps:
            self.assertEqual(run_of(scope, t(text), most=steps), (t(worth), steps))
            if steps > 1:
                with self.assertRaises(TooLong) as caught:
                    run_of(scope, t(text), most=steps - 1)
                self.assertEqual(caught.exception.most, steps - 1)

    def test_worths_as_they_stand(self):
        for text in ("(fun run N (call add 0 0))", "(fun gone N (give run (fun run N @0) 0))", "(to run N (call kindby Y))",
                     "!0", "!8", "N", "(family list (call kindby Y))", "0", "5", "(shape list nil (call kindby Y))",
                     "(shape box boxed N (call add 1 1))", "(shape tree node (fun run N (shape tree leaf)))",
                     "(family eq N 0 (call add 0 0))"):
            self.run_told(text, text, 0)

    def test_shapes_run_their_run_arguments(self):
        self.run_told("(S (call add 0 0))", "1", 1)
        self.run_told("(S (S (call add 1 0)))", "3", 2)
        self.run_told("(shape list cons N (call add 1 1) (shape list cons N (call add 0 0) (shape list nil (call kindby Y))))",
                      "(shape list cons N 2 (shape list cons N 0 (shape list nil (call kindby Y))))", 3)
        self.run_told("(shape vec some N (call add 0 0) (call add 0 1) (shape vec none N))",
                      "(shape vec some N (call add 0 0) 1 (shape vec none N))", 1)

    def test_gives(self):
        self.run_told("(give run (fun run N (S @0)) (call add 0 1))", "2", 2)
        self.run_told("(give gone (fun gone N (shape box boxed N @0)) (call add 0 1))",
                      "(shape box boxed N (call add 0 1))", 1)
        self.run_told("(give gone (fun gone N 3) (call add 0 1))", "3", 1)
        self.run_told("(give run (fun run N 3) (call add 0 1))", "3", 2)
        self.run_told("(give run (give run (fun run N (fun run N (call add @0 @1))) 1) 2)", "3", 5)
        self.run_told("(give run (give gone (fun gone !0 (fun run @0 @0)) N) (call add 0 7))", "7", 3)
        self.run_told("(give run (fun run N (fun run N (call add @0 @1))) (call add 0 1))", "(fun run N (call add @0 1))", 2)

    def test_calls(self):
        self.run_told("(call add 2 1)", "3", 3)
        self.run_told("(call add (call add 1 0) (call add 0 1))", "2", 5)
        self.run_told("(call even 3)", "F", 4)
        self.run_told("(call kindby (call even 2))", "N", 4)
        self.run_told("(call pred (S (call add 1 1)))", "2", 3)

    def test_arguments_run_ahead_of_the_body(self):
        # The argument is run once, though it stands twice in the body; and it is run, though it is dropped.
        self.run_told("(give run (fun run N (call add @0 @0)) (call add 1 0))", "2", 5)
        self.run_told("(call same N (call add 1 1))", "2", 3)
        self.run_told("(call head N (call add 0 0) (shape vec some N (call add 0 0) (call add 0 4) (shape vec none N)))", "4", 2)

    def test_gone_arguments_of_calls_as_they_stand(self):
        self.run_told("(call same (call kindby Y) 3)", "3", 1)
        text = "(call append N (call add 0 1) (call add 0 0) (shape vec some N 0 7 (shape vec none N)) (shape vec none N))"
        worth, steps = run_of(SCOPE, t(text))
        self.assertEqual(worth, t("(shape vec some N (call add 0 (call add 0 0)) 7 (shape vec none N))"))
        self.assertEqual(steps, 2)

    def test_too_long(self):
        with self.assertRaises(TooLong) as caught:
            run_of(SCOPE, ENDLESS)
        self.assertEqual(caught.exception.most, 2000)
        self.assertIsInstance(caught.exception, TooMuch)
        with self.assertRaises(TooLong) as caught:
            run_of(SCOPE, t("(call add (call add 9 9) 0)"), most=7)
        self.assertEqual(caught.exception.most, 7)

    def test_a_body_too_great_by_its_size(self):
        pair = "(fun run (family list (family nat)) (shape list cons (family list (family nat)) @0 " \
               "(shape list cons (family list (family nat)) @0 (shape list nil (family list (family nat))))))"

        def run(many):
            inner = ("shape", "list", "nil", (NAT,))
            for _ in range(many):
                inner = ("shape", "list", "cons", (NAT, number(15), inner))
            return run_of(SCOPE, ("give", "run", t(pair), inner))

        # Two of cons, one of nil, each with its param of two spots.
        spots = 3 * (1 + 2)
        self.assertEqual(run(10)[1], 1)
        with self.assertRaises(TooGreat) as caught:
            run(11)
        self.assertEqual(caught.exception.size, 2 * (11 * 18 + 2) + spots)

    def test_a_body_too_deep(self):
        text = "(give run (fun run N (S @0)) {})"
        self.assertEqual(run_of(SCOPE, t(text.format(39))), (number(40), 1))
        with self.assertRaises(TooGreat) as caught:
            run_of(SCOPE, t(text.format(40)))
        self.assertEqual(caught.exception.size, 42)

    def test_a_body_too_great_though_its_worth_is_not(self):
        drop = "(give run (fun run N (give gone (fun gone N 0) (S @0))) {})"
        self.assertEqual(run_of(SCOPE, t(drop.format(38))), (number(0), 2))
        with self.assertRaises(TooGreat) as caught:
            run_of(SCOPE, t(drop.format(40)))
        self.assertEqual(caught.exception.size, 4 + 42)
        scope = with_items("""define drop -
take run (family nat)
result (family nat)
row *
body (give gone (fun gone (family nat) (shape nat zero)) (shape nat next @0))""")
        self.assertEqual(run_of(scope, t("(call drop 38)")), (number(0), 2))
        with self.assertRaises(TooGreat) as caught:
            run_of(scope, t("(call drop 39)"), most=1)
        self.assertEqual(caught.exception.size, 4 + 41)

    def test_at_the_bound(self):
        def wide(many, last):
            inner = ("shape", "list", "nil", (NAT,))
            for at in range(many):
                inner = ("shape", "list", "cons", (NAT, number(last if at == many - 1 else 20), inner))
            return inner

        self.assertEqual(run_of(SCOPE, wide(17, 27))[1], 0)
        self.assertEqual(size_of(wide(17, 27)), 400)
        with self.assertRaises(TooGreat) as caught:
            run_of(SCOPE, wide(17, 28))
        self.assertEqual(caught.exception.size, 401)

    def test_a_worth_too_great(self):
        self.assertEqual(run_of(SCOPE, number(40)), (number(40), 0))
        for term in (number(41), number(45), number(100)):
            # What stands within is a worth first, so the first that is too deep is told.
            with self.assertRaises(TooGreat) as caught:
                run_of(SCOPE, term)
            self.assertEqual(caught.exception.size, 42)
        with self.assertRaises(TooGreat) as caught:
            run_of(SCOPE, t("(call add 20 21)"))
        self.assertEqual(caught.exception.size, 42)
        with self.assertRaises(TooGreat) as caught:
            run_of(SCOPE, ("fun", "run", NAT, number(40)))
        self.assertEqual(caught.exception.size, 43)
        wide = ("shape", "list", "nil", (NAT,))
        for _ in range(30):
            wide = ("shape", "list", "cons", (NAT, number(12), wide))
        with self.assertRaises(TooGreat) as caught:
            run_of(SCOPE, wide)
        self.assertEqual(caught.exception.size, 2 + 15 * 27)

    def test_what_is_gone_counts_in_a_worth(self):
        boxed = ("shape", "box", "boxed", (NAT, number(39)))
        self.assertEqual(run_of(SCOPE, boxed), (boxed, 0))
        with self.assertRaises(TooGreat) as caught:
            run_of(SCOPE, ("shape", "box", "boxed", (NAT, number(40))))
        self.assertEqual(caught.exception.size, 43)

    def test_whichever_comes_first(self):
        deep = ("give", "run", t("(fun run N (S @0))"), number(40))
        with self.assertRaises(TooGreat):
            run_of(SCOPE, ("call", "add", (deep, ENDLESS)))
        with self.assertRaises(TooLong):
            run_of(SCOPE, ("call", "add", (ENDLESS, deep)))
        # Of one step TooLong.
        with self.assertRaises(TooGreat):
            run_of(SCOPE, ("call", "add", (t("(call add 0 0)"), deep)), most=2)
        with self.assertRaises(TooLong) as caught:
            run_of(SCOPE, ("call", "add", (t("(call add 0 0)"), deep)), most=1)
        self.assertEqual(caught.exception.most, 1)

    def test_many_calls_within_one_another(self):
        scope = with_items("""define down 0
take run (family nat)
take run (family nat)
result (family nat)
row (zero) *
body @0
row (next *) *
body (call pred (call down @1 (shape nat next @0)))""", GROW)
        self.assertEqual(run_of(scope, t("(call down 20 0)")), (number(0), 41))
        term = t("0")
        for _ in range(900):
            term = ("call", "pred", (term,))
        self.assertEqual(run_of(scope, term), (number(0), 900))
        self.assertEqual(run_of(scope, t("(call grow 3 1)"))[0], number(8))

    def test_each_comes_to_a_worth_of_its_kind_that_is_its_outcome(self):
        for text in JUDGED:
            term = t(text)
            kind = kind_of(SCOPE, term)
            worth, steps = run_of(SCOPE, term)
            self.assertIsInstance(steps, int)
            self.assertIsNone(fit(SCOPE, worth, kind))
            self.assertTrue(are_alike(SCOPE, worth, term))
            self.assertEqual(outcome_way(SCOPE, worth)[1], outcome_way(SCOPE, term)[1])
            self.assertEqual(run_of(SCOPE, worth), (worth, 0))

    def test_by_names_and_unchanged(self):
        term = t("(call add 1 (call twice 2))")
        kept = copy.deepcopy(term)
        self.assertEqual(run_of(scope=SCOPE, term=term, most=99), run_of(whole(), kept))
        self.assertEqual(term, kept)
        self.assertEqual(SCOPE, whole())
        self.assertRaises(TypeError, run_of, SCOPE, term, 99)


class HoledTest(unittest.TestCase):
    def scope(self, *names):
        """A Scope with open items and definitions that call them: `uses` the first, `far` uses `uses`."""
        scope = SCOPE
        for name in names:
            scope = scope.with_item(("open", name, (), NAT))
        return scope.with_item(("lot", (
            ("uses", (("run", NAT),), NAT, 0, (
                ((("shape", "zero", ()),), ("call", names[0], ())),
                ((("shape", "next", (("take",),)),), t("0")))),
        ))).with_item(("lot", (
            ("far", (("run", NAT),), NAT, 0, (((("take",),), ("fun", "run", NAT, ("call", "uses", (("at", 1),)))),)),
        )))

    def holed(self, name, scope, text):
        for most in (1, 2000):
            with self.assertRaises(Holed) as caught:
                run_of(scope, t(text), most=most)
            self.assertEqual(caught.exception.name, name)
            self.assertIsInstance(caught.exception, TongueError)
            self.assertNotIsInstance(caught.exception, Absent)

    def test_holed(self):
        scope = self.scope("wish", "other")
        self.holed("wish", scope, "(call wish)")
        self.holed("wish", scope, "(fun run N (call wish))")
        self.holed("wish", scope, "(shape box boxed N (call wish))")
        self.holed("wish", scope, "(call uses 1)")
        self.holed("wish", scope, "(call far 1)")
        self.holed("wish", scope, "(fun run N (call far 1))")
        self.holed("wish", scope, "(give gone (fun gone N 0) (call far 0))")
        self.assertEqual(run_of(scope, t("(call add 1 1)")), (number(2), 2))

    def test_the_first_rising(self):
        scope = self.scope("wish", "other")
        self.holed("other", scope, "(call add (call wish) (call other))")
        self.holed("other", scope, "(call add (call uses 1) (call other))")
        scope = self.scope("other", "wish")
        self.holed("other", scope, "(call add (call wish) (call far 1))")

    def test_holed_goes_ahead_of_too_long_and_too_great(self):
        scope = self.scope("wish")
        self.holed("wish", scope, "(call add 9 (call far 1))")
        deep = ("give", "run", t("(fun run N (S @0))"), number(40))
        with self.assertRaises(Holed):
            run_of(scope, ("call", "add", (deep, ("call", "wish", ()))))
        with self.assertRaises(Holed):
            run_of(scope, ("call", "add", (ENDLESS, ("call", "wish", ()))))

    def test_definitions_that_call_one_another(self):
        scope = self.scope("wish").with_item(read_item("""define here 0
take run (family nat)
result (family nat)
row (zero)
body (shape nat zero)
row (next *)
body (call there @0)
define there 0
take run (family nat)
result (family nat)
row (zero)
body (call uses (shape nat zero))
row (next *)
body (call here @0)"""))
        self.holed("wish", scope, "(call here 0)")
        self.holed("wish", scope, "(call there 4)")

    def test_next(self):
        self.assertEqual(next_of(number(2)), t("3"))


if __name__ == "__main__":
    unittest.main()
