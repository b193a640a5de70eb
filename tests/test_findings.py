import copy
import unittest

from kindsbyworth.covers import covered
from kindsbyworth.findings import finding_holds
from kindsbyworth.judging import judged
from kindsbyworth.kinds import kind_of
from kindsbyworth.papers import fit_paper
from kindsbyworth.reckoning import outcome_way
from kindsbyworth.scopes import Scope
from kindsbyworth.steps import walked
from tests.library import ORDER, item, t, tele, whole
from tests.papers import FIT, changed
from tests.samples import DUE, NAT, ODD_THINGS, TAKE, TERMS, ZERO, number, shaped
from tests.test_judging import made
from tests.test_kinds import ENDLESS, JUDGED

SCOPE = whole()
ITEMS = SCOPE.all_items
PAPERS = tuple([judged(Scope(ITEMS[:at]), one) for at, one in enumerate(ITEMS)])
NAT_ALONE = (ITEMS[0],), (PAPERS[0],)


class Findings(unittest.TestCase):
    def holds(self, finding, wanted=True):
        kept = copy.deepcopy(finding)
        self.assertIs(finding_holds(finding), wanted)
        self.assertEqual(finding, kept)


class AllTest(Findings):
    def test_of_anything(self):
        for thing in ODD_THINGS + TERMS + ITEMS + PAPERS:
            self.holds(thing, False)
            for word in ("kind", "step", "lacks", "ring", "unlike", "", "a", None):
                for many in range(8):
                    self.holds((word,) + (thing,) * many, False)
                self.holds((word, (), ()) + (thing,) * 2, False)
                self.holds((word, (), (), ZERO) + (thing,) * 2, False)

    def test_items_let_by_one_behind_another(self):
        end = ("0", "N", FIT)
        finding = ("kind", t(end[0]), t(end[1]), FIT)
        self.holds(("kind",) + NAT_ALONE + finding[1:])
        self.holds(("kind", ITEMS, PAPERS) + finding[1:])
        for items, papers in (((), ()), (ITEMS, PAPERS[:-1]), (ITEMS[:-1], PAPERS), (list(ITEMS), PAPERS), (ITEMS, list(PAPERS)),
                              (ITEMS[::-1], PAPERS[::-1]), (ITEMS[:1] * 2, PAPERS[:1] * 2), (NAT, NAT), (None, None), (SCOPE, PAPERS),
                              (ITEMS[:1] + (("open", "wish", (), NAT),), PAPERS[:1] + ((),)),
                              (ITEMS[:2], PAPERS[:1] + (((), (), ()),)), (ITEMS[:1] + (ITEMS[9],), PAPERS[:1] + (PAPERS[10],))):
            self.holds(("kind", items, papers) + finding[1:], False)
            self.holds(("step", items, papers, ZERO, (), ZERO), items == ())
            self.holds(("unlike", items, papers, ZERO, number(1), (), ()), items == ())
            self.holds(("lacks", items, papers, ITEMS[9][1][0], (ZERO, ZERO)), False)
        # An item that hangs on one that isn't there.
        self.holds(("kind", (ITEMS[0], ITEMS[13]), (PAPERS[0], PAPERS[13])) + finding[1:], False)

    def test_lengths(self):
        good = ("step",) + NAT_ALONE + (ZERO, (), ZERO)
        self.holds(good)
        for other in (good[:-1], good + ((),), list(good), ("steps",) + good[1:], (good,)):
            self.holds(other, False)


class KindTest(Findings):
    def told(self, text, kind, fit, wanted=True):
        self.holds(("kind", ITEMS, PAPERS, t(text), t(kind), fit), wanted)

    def test_what_the_judge_tells(self):
        for text in JUDGED:
            term = t(text)
            kind = kind_of(SCOPE, term)
            fit = fit_paper(SCOPE, term, kind)
            self.holds(("kind", ITEMS, PAPERS, term, kind, fit))
            self.holds(("kind", ITEMS, PAPERS, term, ("world", 8), fit), kind == ("world", 8))
            for at, other in enumerate(changed(fit)):
                if at % 40 == 0 and at < 800:
                    self.assertIn(finding_holds(("kind", ITEMS, PAPERS, term, kind, other)), (True, False))

    def test_no_name_is_open(self):
        self.told("@0", "N", FIT, False)
        self.told("0", "@0", FIT, False)
        around = "(call same (to run N N) (fun run N {}))"
        # A step drops it.
        dropping = "(give run (fun run N N) {})"
        self.told("0", dropping.format("0"), ("as", (), (), ((),)))
        self.told("0", dropping.format("@0"), ("as", (), (), ((),)), False)
        self.told("0", dropping.format("@7"), ("as", (), (), ((),)), False)
        fit = fit_paper(SCOPE, t(around.format("@0")), t("(to run N N)"))
        self.told(around.format("@0"), "(to run N N)", fit)
        self.told(around.format("@1"), "(to run N N)", fit, False)
        self.told("(fun run N @0)", "(to run N N)", ("under", (), (), (), (), (), FIT))

    def test_in_manner_run(self):
        self.told("(fun gone N @0)", "(to gone N N)", ("under", (), (), (), (), (), FIT), False)

    def test_terms_by_form(self):
        for thing in (None, "0", ("at", -1), ("shape", "nat", "zero"), ["world", 0], ("hole", "A"), ("hole", "a")):
            self.holds(("kind", ITEMS, PAPERS, thing, NAT, FIT), False)
            self.holds(("kind", ITEMS, PAPERS, ZERO, thing, FIT), False)


class StepTest(Findings):
    def test_walked(self):
        term = t("(call add 1 2)")
        way, told = outcome_way(SCOPE, term)
        self.holds(("step", ITEMS, PAPERS, term, way, told))
        self.holds(("step", ITEMS, PAPERS, term, way[:1], told), False)
        self.holds(("step", ITEMS, PAPERS, term, way[:1], walked(SCOPE, term, way[:1])))
        self.holds(("step", ITEMS, PAPERS, term, (), term))
        for other in (None, [], [()], ((0,),), way + ((),), 0, "", ((True,),)):
            self.holds(("step", ITEMS, PAPERS, term, other, told), False)
        for other in (None, (), ["a"], t("4"), t("(call add 1 2)")):
            self.holds(("step", ITEMS, PAPERS, term, way, other), False)
        self.holds(("step", (), (), term, way, told), False)

    def test_no_kind_is_asked_nor_that_terms_are_closed(self):
        self.holds(("step", (), (), t("(give run (fun run @9 (S @0)) ?a)"), ((),), t("(S ?a)")))
        self.holds(("step", (), (), t("@3"), (), t("@3")))
        self.holds(("step", (), (), t("@3"), (), t("@4")), False)

    def test_too_great(self):
        term = t("(give run (fun run N (call add @0 @0)) 39)")
        self.holds(("step", ITEMS, PAPERS, term, ((),), ("call", "add", (number(39), number(39)))))
        term = t("(give run (fun run N (call add @0 @0)) 40)")
        self.holds(("step", ITEMS, PAPERS, term, ((),), ("call", "add", (number(40), number(40)))), False)


class LacksTest(Findings):
    def told(self, definition, arguments, wanted=True):
        self.holds(("lacks", ITEMS, PAPERS, definition, arguments), wanted)

    def test_what_covered_tells(self):
        for telescope, rows in ((("run N",), ()), (("run N", "run B"), (((shaped("zero"), TAKE), ZERO),)),
                                (("gone N", "run (family vec N @0)"), (((DUE, shaped("none")), ZERO),)),
                                (("gone !0", "run @0"), ())):
            definition = ("f", tele(*telescope), NAT, None, rows)
            told = covered(SCOPE, definition)
            self.assertEqual(told[0], "lacks")
            self.told(definition, told[1])
            self.told(definition, told[1][:-1], False)
            self.told(definition, told[1] + (ZERO,), False)
            self.told(definition, list(told[1]), False)

    def test_rows(self):
        definition = ("f", tele("run N"), NAT, None, (((shaped("zero"),), ZERO),))
        for many, wanted in ((0, False), (1, True), (5, True)):
            self.told(definition, (number(many),), wanted)
        self.told(definition, (t("(call add 0 0)"),), False)
        self.told(definition, (t("(call add 0 1)"),))
        self.told(definition, (t("Y"),), False)
        self.told(definition, (t("@0"),), False)
        self.told(definition, (t("?a"),), False)
        self.told(definition, ("0",), False)
        self.told(definition, None, False)

    def test_the_telescope_s_kinds_the_judge_lets_by(self):
        for telescope, arguments in ((("run 0",), (ZERO,)), (("run @0",), (ZERO,)), (("run N", "run @0"), (ZERO, ZERO)), (("run !9",), (ZERO,)),
                                     (("run (call absent)",), (ZERO,)), (("run (family vec N Y)",), (ZERO,))):
            self.told(("f", tele(*telescope), NAT, None, ()), arguments, False)
        self.told(("f", tele("run (call kindby Y)"), NAT, None, ()), (ZERO,))
        self.holds(("lacks", (), (), ("f", tele("run N"), NAT, None, ()), (ZERO,)), False)

    def test_with_most(self):
        endless = ("call", "kindby", (("give", "run", ("fun", "run", NAT, t("Y")), ENDLESS),))
        self.told(("f", (("run", endless),), NAT, None, ()), (ZERO,), False)
        deep = ("f", tele("run N"), NAT, None, ())
        self.told(deep, (t("(call add 39 0)"),))
        self.told(deep, (t("(call add 30 30)"),), False)

    def test_name_result_and_rows_by_form_alone(self):
        self.told(("add", tele("run N"), t("@9"), None, (((shaped("zero"),), ("hole", "h")), ((shaped("yes", TAKE),), t("(call absent)")))),
                  (number(1),))
        self.told(("base.1.f", tele("run N"), t("(call absent)"), None, ()), (ZERO,))
        for definition in (None, (), ("F", tele("run N"), NAT, None, ()), ("f", tele("run N"), NAT, 1, ()), ("f", tele("run N"), NAT, True, ()),
                           ("f", [], NAT, None, ()), ("f", tele("run N"), NAT, None, (((), ZERO),)), ("f", tele("run N"), ("hole", "a"), None, ()),
                           ("f", tele("run N"), NAT, None), ("f", tele("run N"), NAT, None, [])):
            self.told(definition, (ZERO,), False)
        deep = TAKE
        for _ in range(40):
            deep = shaped("next", deep)
        self.told(("f", tele("run N"), NAT, None, (((deep,), ZERO),)), (number(3),))


class RingTest(Findings):
    ROUND = made("define f 0", "take run N", "result N", "row *", "body (call add (call g @0) (call h @0))",
                 "define g 0", "take run N", "result N", "row *", "body (call f @0)",
                 "define h 0", "take run N", "result N", "row (zero)", "body (call h @9)", "row *", "body (call h @0)",
                 "define falls 0", "take run N", "result N", "row (zero)", "body 0", "row (next *)", "body (call falls @0)")

    def test_rings(self):
        for names, wanted in ((("f", "g"), True), (("g", "f"), True), (("h",), True), (("f",), False), (("g",), False), (("f", "h"), False),
                              (("f", "g", "f", "g"), False), ((), False), (("falls",), False), (("f", "g", "h"), False), (["f", "g"], False),
                              (("h", "h"), False), ("h", False), (("absent",), False), ((None,), False), (([],), False), (("f", []), False)):
            self.holds(("ring", self.ROUND, names), wanted)

    def test_a_lot_by_form(self):
        for lot in (None, (), item("nat"), list(self.ROUND), ("lot", ()), self.ROUND + ((),), SCOPE):
            self.holds(("ring", lot, ("h",)), False)
        holed = made("define f 0", "take run N", "result N", "row *", "body (call add ?a (call f @0))")
        self.holds(("ring", holed, ("f",)))
        self.holds(("ring", holed, ("f",), ()), False)


class UnlikeTest(Findings):
    def test_ways_lead_to_unlike_terms(self):
        one, other = t("(call add 1 2)"), t("(call add 2 2)")
        way, further = outcome_way(SCOPE, one)[0], outcome_way(SCOPE, other)[0]
        self.holds(("unlike", ITEMS, PAPERS, one, other, way, further))
        self.holds(("unlike", ITEMS, PAPERS, one, other, way[:-1], further), False)
        self.holds(("unlike", ITEMS, PAPERS, one, other, way, further[:-1]), False)
        self.holds(("unlike", ITEMS, PAPERS, one, one, way, way), False)
        self.holds(("unlike", ITEMS, PAPERS, one, t("3"), way, ()), False)
        self.holds(("unlike", ITEMS, PAPERS, one, t("4"), way, ()))
        for odd in (None, [], 0, ((9,),)):
            self.holds(("unlike", ITEMS, PAPERS, one, other, odd, further), False)
            self.holds(("unlike", ITEMS, PAPERS, one, other, way, odd), False)

    def test_at_every_spot_no_step_goes(self):
        self.holds(("unlike", ITEMS, PAPERS, t("(fun run N (call add 0 @0))"), t("(fun run N 0)"), (), ()), False)
        self.holds(("unlike", ITEMS, PAPERS, t("(fun run N (call add @0 0))"), t("(fun run N 0)"), (), ()))
        self.holds(("unlike", (), (), t("(call add 0 0)"), t("0"), (), ()))
        self.holds(("unlike", (), (), t("(give run (fun run N @0) 0)"), t("0"), (), ()), False)
        great = t("(give run (fun run N (call add @0 @0)) 45)")
        self.holds(("unlike", (), (), great, t("0"), (), ()), False)

    def test_no_kind_is_asked_nor_that_terms_are_closed(self):
        self.holds(("unlike", (), (), t("@0"), t("@1"), (), ()))
        self.holds(("unlike", (), (), t("?a"), t("(S @1)"), (), ()))
        self.holds(("unlike", (), (), t("@0"), t("@0"), (), ()), False)
        for odd in (None, "0", ("at", True)):
            self.holds(("unlike", (), (), odd, t("@0"), (), ()), False)
            self.holds(("unlike", (), (), t("@0"), odd, (), ()), False)

    def test_by_name(self):
        self.assertIs(finding_holds(thing=("unlike", (), (), t("@0"), t("@1"), (), ())), True)
        self.assertEqual(len(ORDER), len(ITEMS))


if __name__ == "__main__":
    unittest.main()
