import copy
import unittest

from kindsbyworth.errors import TooLong, Unjudged
from kindsbyworth.kinds import fit, kind_of
from kindsbyworth.papers import fit_paper, kind_paper
from kindsbyworth.reckoning import outcome_way
from kindsbyworth.smaller import fit_holds, kind_by
from kindsbyworth.steps import walked
from tests.library import t, tele, whole
from tests.samples import NAT, ZERO
from tests.test_kinds import ENDLESS, JUDGED

SCOPE = whole()
PLAIN = ("as", (), (), ())


class PaperTest(unittest.TestCase):
    def paper(self, text, paper, around=(), manner="run"):
        self.assertEqual(kind_paper(SCOPE, t(text), around=around, manner=manner), paper)
        self.assertEqual(kind_by(SCOPE, t(text), paper, around=around, manner=manner),
                         kind_of(SCOPE, t(text), around=around, manner=manner))

    def fit(self, text, kind, paper, around=(), manner="run"):
        self.assertEqual(fit_paper(SCOPE, t(text), t(kind), around=around, manner=manner), paper)
        self.assertIs(fit_holds(SCOPE, t(text), t(kind), paper, around=around, manner=manner), True)

    def test_at_and_world(self):
        self.paper("@0", (), tele("run N"))
        self.paper("@1", (), tele("gone !0", "gone N"), "gone")
        self.paper("!0", ())
        self.paper("!8", ())

    def test_to(self):
        self.paper("(to run !0 @0)", ((), (), (), ()))
        self.paper("(to run N N)", ((), (), (), ()))
        around = tele("gone (call same !1 !0)", "run @0")
        self.paper("(to gone @1 @2)", ((), ((),), (), ((),)), around)

    def test_fun(self):
        self.paper("(fun run N @0)", ((), (), ()))
        self.paper("(fun gone @0 @0)", ((), ((),), ()), tele("gone (call same !1 !0)"), "gone")
        self.paper("(fun run (call kindby Y) (S @0))", ((PLAIN,), (), (("as", (), ((),), ()),)))

    def test_give(self):
        self.paper("(give run (fun run N @0) 0)", (((), (), ()), (), ("as", (), (), ())))
        self.paper("(give run @0 0)", ((), ((),), PLAIN), tele("run (call same !0 (to run N N))"))

    def test_a_tuple_of_fits(self):
        self.paper("N", ())
        self.paper("Y", ())
        self.paper("1", (PLAIN,))
        self.paper("(family vec N 0)", (PLAIN, PLAIN))
        self.paper("(call add 0 1)", (PLAIN, ("as", (PLAIN,), (), ())))
        self.paper("(shape vec some N 0 1 (shape vec none N))",
                   (PLAIN, PLAIN, ("as", (PLAIN,), (), ()), ("as", (PLAIN,), (), ())))

    def test_as(self):
        self.fit("0", "N", PLAIN)
        self.fit("0", "(call kindby Y)", ("as", (), (), ((),)))
        self.fit("@0", "N", ("as", (), ((),), ()), tele("run (call kindby Y)"))
        self.fit("@0", "(call kindby Y)", PLAIN, tele("run (call kindby Y)"))
        self.fit("@0", "(family list (call kindby Y))", ("as", (), ((), (0,)), ((0,),)),
                 tele("run (call same !1 (family list (call kindby Y)))"))

    def test_under(self):
        self.fit("(fun run N @0)", "(to run N N)", ("under", (), (), (), (), (), PLAIN))
        self.fit("(fun run N @0)", "(to run (call kindby Y) N)", ("under", (), (), (), (), ((),), PLAIN))
        self.fit("(fun run (call kindby Y) @0)", "(to run N N)",
                 ("under", (), (PLAIN,), (), ((),), (), ("as", (), ((),), ())))
        self.fit("(fun run N @0)", "(call same !0 (to run N N))", ("under", ((),), (), (), (), (), PLAIN))
        self.fit("(fun run @0 @0)", "(to run @0 @1)", ("under", (), (), ((),), (), (), PLAIN),
                 tele("gone (call same !1 !0)"))
        self.fit("(fun run N (fun gone N @1))", "(to run N (to gone N N))",
                 ("under", (), (), (), (), (), ("under", (), (), (), (), (), PLAIN)))

    def test_what_is_judged_has_a_paper_that_the_smaller_judge_lets_by(self):
        for text in JUDGED:
            term = t(text)
            kind = kind_of(SCOPE, term)
            self.assertEqual(kind_by(SCOPE, term, kind_paper(SCOPE, term)), kind)
            for wanted in (kind, outcome_way(SCOPE, kind)[1], ("call", "same", (("world", 3), kind))):
                self.assertIsNone(fit(SCOPE, term, wanted))
                self.assertIs(fit_holds(SCOPE, term, wanted, fit_paper(SCOPE, term, wanted)), True)
            paper = kind_paper(SCOPE, term, manner="gone")
            self.assertEqual(kind_by(SCOPE, term, paper, manner="gone"), kind_of(SCOPE, term, manner="gone"))

    def test_refused_as_the_judge_refuses(self):
        for text, spot, word in (("?a", (), "wish"), ("!9", (), "world"), ("@0", (), "around"),
                                 ("(call add Y @9)", (0,), "unlike"), ("(give run 0 0)", (0,), "to")):
            with self.assertRaises(Unjudged) as caught:
                kind_paper(SCOPE, t(text))
            self.assertEqual((caught.exception.spot, caught.exception.word), (spot, word))
            with self.assertRaises(Unjudged) as caught:
                fit_paper(SCOPE, t(text), NAT)
            self.assertEqual((caught.exception.spot, caught.exception.word), (spot, word))
        with self.assertRaises(Unjudged) as caught:
            fit_paper(SCOPE, ZERO, t("B"))
        self.assertEqual((caught.exception.spot, caught.exception.word), ((), "unlike"))
        with self.assertRaises(TooLong) as caught:
            fit_paper(SCOPE, ZERO, ENDLESS, most=12)
        self.assertEqual(caught.exception.most, 12)
        with self.assertRaises(TooLong):
            kind_paper(SCOPE, t("(call sym N 9 (call add 5 4) (shape eq same N 9))"), most=5)

    def test_no_names_around_and_manner_run_where_none_is_told(self):
        for asked in (lambda **more: kind_paper(SCOPE, ("at", 0), **more),
                      lambda **more: fit_paper(SCOPE, ("at", 0), NAT, **more)):
            for more, word in (({}, "around"), ({"around": tele("gone N")}, "gone")):
                with self.assertRaises(Unjudged) as caught:
                    asked(**more)
                self.assertEqual(caught.exception.word, word)

    def test_by_names_and_unchanged(self):
        around = tele("run N")
        self.assertEqual(kind_paper(scope=SCOPE, term=("at", 0), around=around, manner="gone", most=5), ())
        self.assertEqual(fit_paper(scope=SCOPE, term=("at", 0), kind=NAT, around=around, manner="gone", most=5), PLAIN)
        self.assertRaises(TypeError, kind_paper, SCOPE, ZERO, ())
        self.assertRaises(TypeError, fit_paper, SCOPE, ZERO, NAT, ())
        for text in JUDGED:
            term = t(text)
            kept = copy.deepcopy(term)
            self.assertEqual(kind_paper(SCOPE, term), kind_paper(whole(), kept))
            self.assertEqual(term, kept)

    def test_ways_are_ways(self):
        self.assertEqual(walked(SCOPE, t("(call kindby Y)"), fit_paper(SCOPE, ZERO, t("(call kindby Y)"))[3]), NAT)


if __name__ == "__main__":
    unittest.main()
