import copy
import unittest

from kindsbyworth.errors import NoItem, NoRow, Taken, TooLong, Unjudged
from kindsbyworth.holes import filled, lifted, opened, wishes
from kindsbyworth.itemtexts import read_item, show_item
from kindsbyworth.judging import judged
from kindsbyworth.kinds import fit
from kindsbyworth.scopes import Scope
from tests.library import ORDER, item, t, tele, whole
from tests.paperchecks import is_paper
from tests.samples import ITEMS, NAT, ODD_THINGS

PACK = read_item("""family pack 0
shape packed
take gone (family nat)
take run (family fin @0)""")
SCOPE = whole().with_item(PACK)


def lot(text):
    return read_item(text)


def simple(body, telescope=("take run (family nat)",), result="(family nat)", row="*", less="-"):
    """A lot of one definition f with one row."""
    return read_item("\n".join(["define f " + less, *telescope, "result " + result, "row " + row, "body " + body]))


class LiftedTest(unittest.TestCase):
    def test_holes_become_calls_of_all_names_around(self):
        self.assertEqual(lifted(simple("?a")), simple("(call a @0)"))
        two = ("take run (family nat)", "take run (family nat)")
        self.assertEqual(lifted(simple("?a", two, row="* *")), simple("(call a @1 @0)", two, row="* *"))
        self.assertEqual(lifted(simple("(fun run (family list ?b) (to gone ?c ?d))")),
                         simple("(fun run (family list (call b @0)) (to gone (call c @1 @0) (call d @2 @1 @0)))"))
        self.assertEqual(lifted(simple("(give run ?a (call f ?b))")), simple("(give run (call a @0) (call f (call b @0)))"))

    def test_takes_are_counted_due_ones_are_not(self):
        self.assertEqual(lifted(simple("?a", row="-")), simple("(call a)", row="-"))
        self.assertEqual(lifted(simple("?a", row="(next (next *))")), simple("(call a @0)", row="(next (next *))"))
        three = ("take run (family nat)",) * 3
        self.assertEqual(lifted(simple("?a", three, row="(x * - *) - *")),
                         simple("(call a @2 @1 @0)", three, row="(x * - *) - *"))

    def test_each_row_of_each_definition(self):
        text = """define f 0
take run (family nat)
result (family nat)
row (zero)
body {}
row (next *)
body {}
define g -
result (family nat)
row
body {}"""
        self.assertEqual(lifted(lot(text.format("?a", "?b", "?c"))), lot(text.format("(call a)", "(call b @0)", "(call c)")))

    def test_without_holes_as_it_is(self):
        for key in ORDER:
            self.assertEqual(lifted(item(key)), item(key))
        self.assertEqual(lifted(item=PACK), PACK)


class FilledTest(unittest.TestCase):
    def test_in_the_hole_s_place(self):
        self.assertEqual(filled(simple("?a"), "a", t("(S @0)")), simple("(shape nat next @0)"))
        self.assertEqual(filled(simple("(fun run ?b (call f ?a))"), "a", t("(call add @0 @1)")),
                         simple("(fun run ?b (call f (call add @0 @1)))"))
        self.assertEqual(filled(item=simple("(fun run ?b ?a)"), hole="b", term=NAT), simple("(fun run (family nat) ?a)"))

    def test_with_holes_of_its_own(self):
        self.assertEqual(filled(simple("(shape nat next ?a)"), "a", t("(call f ?c)")),
                         simple("(shape nat next (call f ?c))"))
        self.assertEqual(filled(simple("?a"), "a", t("(S ?a)")), simple("(shape nat next ?a)"))

    def test_other_holes_stay(self):
        one = simple("(call add ?a ?b)")
        self.assertEqual(filled(one, "b", t("@0")), simple("(call add ?a @0)"))
        kept = copy.deepcopy(one)
        filled(one, "a", t("@0"))
        self.assertEqual(one, kept)


class WishesTest(unittest.TestCase):
    def wished(self, lot_item, *rows, scope=SCOPE):
        self.assertEqual(wishes(scope, lot_item), rows)

    def test_what_is_wanted_there(self):
        self.wished(simple("?a"), ("a", tele("run N"), "run", NAT))
        self.wished(simple("?a", result="(family bool)"), ("a", tele("run N"), "run", t("B")))
        self.wished(simple("(call even ?a)", result="(family bool)"), ("a", tele("run N"), "run", NAT))
        self.wished(simple("(fun run (family nat) ?a)", result="(to run (family nat) (family bool))"),
                    ("a", tele("run N", "run N"), "run", t("B")))

    def test_by_names_rising(self):
        self.wished(simple("(call add ?b (call add ?c ?a))"),
                    ("a", tele("run N"), "run", NAT), ("b", tele("run N"), "run", NAT), ("c", tele("run N"), "run", NAT))

    def test_manners(self):
        self.wished(simple("(shape box boxed (family nat) ?a)", result="(family box (family nat))"),
                    ("a", tele("run N"), "gone", NAT))
        self.wished(simple("(give gone (fun gone (family nat) (shape nat zero)) ?a)"), ("a", tele("run N"), "gone", NAT))
        self.wished(simple("(fun gone (family nat) ?a)", result="(to gone (family nat) (family nat))"),
                    ("a", tele("run N", "gone N"), "run", NAT))

    def test_in_kinds(self):
        self.wished(simple("(give gone (fun gone (family fin ?a) (shape nat zero)) ?b)"), ("a", tele("run N"), "gone", NAT), ("b", tele("run N"), "gone", t("(family fin (call a @0))")))
        self.wished(simple("(to run (family fin ?a) (family fin ?b))", result="!0"),
                    ("a", tele("run N"), "gone", NAT), ("b", tele("run N", "run (family fin (call a @0))"), "gone", NAT))

        self.wished(simple("(to run (call kindby ?a) (family nat))", result="!0"), ("a", tele("run N"), "gone", t("B")))
        self.wished(simple("(call kindby ?a)", result="!0"), ("a", tele("run N"), "run", t("B")))

    def test_around_and_wish_are_outcomes(self):
        self.wished(simple("?a", ("take run (call kindby (shape bool yes))",), "(call kindby (shape bool no))"),
                    ("a", tele("run N"), "run", t("B")))
        self.wished(simple("(fun run (call kindby (shape bool yes)) ?a)", result="(to run (family nat) (call kindby (shape bool no)))"),
                    ("a", tele("run N", "run N"), "run", t("B")))
        dependent = ("take gone !0", "take gone (family nat)", "take run (family vec @1 (call add (shape nat zero) @0))")
        self.wished(simple("?a", dependent, "(family vec @2 @1)", "* * *"),
                    ("a", tele("gone !0", "gone N", "run (family vec @1 @0)"), "run", t("(family vec @2 @1)")))

    def test_in_rows_with_patterns(self):
        dependent = ("take gone !0", "take gone (family nat)", "take run (family vec @1 (shape nat next @0))")
        self.wished(simple("?a", dependent, "@2", "* * (some - * *)", "2"),
                    ("a", tele("gone !0", "gone N", "run @1", "run (family vec @2 @1)"), "run", t("@3")))

    def test_what_is_in_the_one_may_name_the_other(self):
        self.wished(simple("(shape pack packed ?many ?that)", result="(family pack)"),
                    ("many", tele("run N"), "gone", NAT),
                    ("that", tele("run N"), "run", t("(family fin (call many @0))")))
        self.wished(simple("(fun run (family nat) (shape pack packed ?many ?that))", result="(to run (family nat) (family pack))"),
                    ("many", tele("run N", "run N"), "gone", NAT),
                    ("that", tele("run N", "run N"), "run", t("(family fin (call many @1 @0))")))

    def test_calls_of_the_lot_wait(self):
        text = """define f 0
take run (family nat)
result (family pack)
row (zero)
body (shape pack packed (call g (shape nat zero)) ?a)
row (next *)
body (call f @0)
define g 0
take run (family nat)
result (family nat)
row *
body @0"""
        self.wished(lot(text), ("a", (), "run", t("(family fin (call g 0))")))

    def test_none(self):
        for key in ORDER[:10]:
            scope = Scope(tuple([item(name) for name in ORDER[:ORDER.index(key)]]))
            self.assertEqual(wishes(scope, item(key)), ())
        self.assertEqual(wishes(SCOPE, simple("@0")), ())

    def refused(self, error, fields, lot_item, scope=SCOPE):
        with self.assertRaises(error) as caught:
            wishes(scope, lot_item)
        self.assertEqual(vars(caught.exception), fields)
        with self.assertRaises(error) as caught:
            judged(scope, lot_item)
        self.assertEqual(vars(caught.exception), fields)

    def test_nowhere_else_it_has_a_kind(self):
        for spot, body, result in (((0,), "(give run ?a @0)", "(family nat)"), ((0,), "(fun run ?a @0)", "(family nat)"),
                                   ((1,), "(fun run (family nat) ?a)", "(family nat)"),
                                   ((0,), "(to run ?a (family nat))", "!0"),
                                   ((1,), "(to run (family nat) ?a)", "!0"),
                                   ((0, 1), "(give run (fun run (family nat) ?a) @0)", "(family nat)"),
                                   ((0,), "(fun run ?a @0)", "(to run (family nat) (family nat))")):
            self.refused(Unjudged, {"spot": spot, "word": "wish"}, simple(body, result=result))

    def test_refused_as_the_rows_are(self):
        self.refused(Unjudged, {"spot": (0,), "word": "unlike"}, simple("(call add (shape bool yes) ?a)"))
        self.refused(NoRow, {"row": 0, "word": "shape"}, simple("?a", row="(absent)"))
        self.refused(Taken, {"name": "add"}, simple("?add"))
        self.refused(Taken, {"name": "add"}, simple("(call add ?nat ?add)"))
        for thing in ODD_THINGS:
            self.assertRaises(NoItem, wishes, SCOPE, thing)
        self.assertRaises(NoItem, wishes, SCOPE, simple("(call add ?a ?b)") + ((),))
        for one in ITEMS[:3]:
            self.refused(Taken, {"name": one[1]}, one)

    def test_no_typed_call_of_an_open_item(self):
        self.refused(Unjudged, {"spot": (1,), "word": "name"}, simple("(call add ?a (call a @0))"))
        self.refused(Unjudged, {"spot": (0,), "word": "name"}, simple("(call add (call a @0) ?a)"))
        scope = SCOPE.with_item(("open", "wish", (), NAT))
        self.refused(Unjudged, {"spot": (), "word": "name"}, simple("(call wish)"), scope)
        self.refused(Taken, {"name": "wish"}, simple("?wish"), scope)

    def test_too_long(self):
        long = simple("?a", result="(call kindby (call even (shape nat next (shape nat next (shape nat zero)))))")
        self.assertEqual(wishes(SCOPE, long)[0][3], NAT)
        with self.assertRaises(TooLong) as caught:
            wishes(SCOPE, long, most=2)
        self.assertEqual(caught.exception.most, 2)

    def test_by_names_and_unchanged(self):
        one = simple("(call add ?a ?b)")
        kept = copy.deepcopy(one)
        self.assertEqual(wishes(scope=SCOPE, item=one, most=9), wishes(whole().with_item(PACK), kept))
        self.assertEqual(one, kept)
        self.assertRaises(TypeError, wishes, SCOPE, one, 9)


class OpenedTest(unittest.TestCase):
    def test_open_items(self):
        rows = wishes(SCOPE, simple("(shape pack packed ?many ?that)", result="(family pack)"))
        self.assertEqual(opened(rows=rows), (("open", "many", tele("run N"), NAT),
                                             ("open", "that", tele("run N"), t("(family fin (call many @0))"))))
        self.assertEqual(opened(()), ())
        self.assertEqual(len(Scope(opened(rows))), 2)

    def test_a_paper_of_the_lifted_lot(self):
        for one in (simple("?a"), simple("(call add ?a (shape nat next ?b))"),
                    simple("(shape pack packed ?many ?that)", result="(family pack)"),
                    simple("(fun gone (family nat) (fun run (family fin @0) ?a))",
                           result="(to gone (family nat) (to run (family fin @0) (family fin @1)))"),
                    simple("(fun run (call kindby (shape bool yes)) (shape pack packed @0 ?a))",
                           ("take run (call kindby (shape bool no))",), "(to run (family nat) (family pack))")):
            self.assertTrue(is_paper(SCOPE, one, judged(SCOPE, one)))

    def test_a_term_that_fits_the_wish_makes_the_lot_let_by(self):
        dependent = ("take gone !0", "take gone (family nat)", "take run (family vec @1 (shape nat next @0))")
        for one, fillings in (
                (simple("?a"), ("0", "@0", "(call add @0 @0)", "(S @0)")),
                (simple("(call add ?a @0)"), ("0", "@0")),
                (simple("?a", dependent, "@2", "* * (some - * *)", "2"), ("@1",)),
                (simple("(shape box boxed (family nat) ?a)", ("take gone (family nat)",), "(family box (family nat))"),
                 ("@0", "(S @0)", "0"))):
            (name, around, manner, wish), = wishes(SCOPE, one)
            for text in fillings:
                self.assertIsNone(fit(SCOPE, t(text), wish, around=around, manner=manner))
                made = filled(one, name, t(text))
                self.assertTrue(is_paper(SCOPE, made, judged(SCOPE, made)))
            for text in ("Y", "!0", "@9"):
                self.assertRaises(Unjudged, fit, SCOPE, t(text), wish, around=around, manner=manner)
                self.assertRaises(Unjudged, judged, SCOPE, filled(one, name, t(text)))

    def test_other_holes_are_told_alike_then(self):
        one = simple("(shape pack packed ?many ?that)", result="(family pack)")
        made = filled(one, "many", t("(S @0)"))
        self.assertEqual(wishes(SCOPE, made), (("that", tele("run N"), "run", t("(family fin (S @0))")),))
        self.assertTrue(is_paper(SCOPE, made, judged(SCOPE, made)))
        again = filled(made, "that", t("(shape fin first @0)"))
        self.assertEqual(wishes(SCOPE, again), ())
        self.assertTrue(is_paper(SCOPE, again, judged(SCOPE, again)))
        self.assertEqual(read_item(show_item(made)), made)


if __name__ == "__main__":
    unittest.main()
