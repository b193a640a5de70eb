import copy
import unittest

from kindsbyworth.errors import Unjudged
from kindsbyworth.kinds import fit, kind_of
from kindsbyworth.papers import fit_paper, kind_paper
from kindsbyworth.reckoning import are_alike
from kindsbyworth.scopes import Scope
from kindsbyworth.smaller import fit_holds, kind_by
from tests.library import t, tele, whole
from tests.samples import NAT, ODD_THINGS, ZERO, number
from tests.test_kinds import JUDGED

SCOPE = whole()
PLAIN = ("as", (), (), ())
# What is put in the place of each part of a paper; True and 1.0-like twins of numbers among them.
OTHERS = (None, True, False, 0, 1, "as", "under", (), ((),), ((0,),), ((), ()), PLAIN, (PLAIN,), [], [()], {}, ("as",),
          ((True,),), ((False,),), ("as", (), ((),), ()), (("x",),), ((-1,),))


def changed(thing):
    """All things that differ from this one in one part."""
    for other in OTHERS:
        if other != thing or repr(other) != repr(thing):
            yield other
    if isinstance(thing, tuple):
        yield list(thing)
        yield thing + ((),)
        yield thing[:-1]
        yield thing[::-1]
        for at in range(len(thing)):
            for made in changed(thing[at]):
                yield thing[:at] + (made,) + thing[at + 1:]


class SmallerTest(unittest.TestCase):
    def kind(self, text, paper, kind, around=(), manner="run", scope=SCOPE):
        wanted = None if kind is None else t(kind)
        self.assertEqual(kind_by(scope, t(text), paper, around=around, manner=manner), wanted)

    def fit(self, text, kind, paper, holds, around=(), manner="run", scope=SCOPE):
        self.assertIs(fit_holds(scope, t(text), t(kind), paper, around=around, manner=manner), holds)

    def test_at(self):
        around = tele("gone !0", "run @0")
        self.kind("@0", (), "@1", around)
        self.kind("@1", (), None, around)
        self.kind("@1", (), "!0", around, "gone")
        self.kind("@2", (), None, around, "gone")
        self.kind("@0", None, None, around)
        self.kind("@0", ((),), None, around)
        self.kind("@0", [], None, around)

    def test_world(self):
        self.kind("!8", (), "!9")
        self.kind("!9", (), None)
        self.kind("!0", PLAIN, None)

    def test_to(self):
        self.kind("(to run N !3)", ((), (), (), ()), "!4")
        self.kind("(to run !3 N)", ((), (), (), ()), "!4")
        around = tele("gone (call same !1 !0)")
        self.kind("(to run @0 @1)", ((), ((),), (), ((),)), "!0", around)
        self.kind("(to run @0 @1)", ((), (), (), ((),)), None, around)
        self.kind("(to run @0 @1)", ((), ((),), (), ()), None, around)
        self.kind("(to run 0 N)", ((), (), (), ()), None)
        self.kind("(to run N N)", ((), (), ()), None)
        self.kind("(to run N 0)", ((), (), (), ()), None)
        self.kind("(to run N 0)", ((), (), (PLAIN,), ()), None)

    def test_fun(self):
        self.kind("(fun run N @0)", ((), (), ()), "(to run N N)")
        self.kind("(fun gone N @0)", ((), (), ()), None)
        self.kind("(fun gone N @0)", ((), (), ()), "(to gone N N)", (), "gone")
        self.kind("(fun run @0 @0)", ((), (), ()), None, tele("run N"))
        self.kind("(fun run @0 0)", ((), (), ()), "(to run @0 N)", tele("gone !0"))
        self.kind("(fun run 0 0)", ((), (), ()), None)

    def test_give(self):
        inner = ((), (), ())
        self.kind("(give run (fun run N @0) 0)", (inner, (), PLAIN), "N")
        self.kind("(give gone (fun run N @0) 0)", (inner, (), PLAIN), None)
        self.kind("(give run (fun run N @0) Y)", (inner, (), PLAIN), None)
        self.kind("(give run 0 0)", ((), (), PLAIN), None)
        around = tele("run (call same !0 (to run N (call kindby F)))", "gone N", "run (to gone N N)", "run (to run N N)")
        self.kind("(give run @3 0)", ((), ((),), PLAIN), "(call kindby F)", around)
        self.kind("(give run @3 0)", ((), ((), (1,)), PLAIN), "B", around)
        self.kind("(give run @3 0)", ((), (), PLAIN), None, around)
        self.kind("(give gone @1 @2)", ((), (), PLAIN), "N", around)
        self.kind("(give run @0 @2)", ((), (), PLAIN), None, around)
        self.kind("(give run @0 @2)", ((), (), PLAIN), "N", around, "gone")

    def test_table(self):
        self.kind("(S 0)", (PLAIN,), "N")
        self.kind("(S Y)", (PLAIN,), None)
        self.kind("(S 0)", (), None)
        self.kind("(S 0)", PLAIN, None)
        self.kind("(family vec N 0)", (PLAIN, PLAIN), "!1")
        self.kind("(family vec N 0 0)", (PLAIN, PLAIN, PLAIN), None)
        self.kind("(call add 0)", (PLAIN,), None)
        self.kind("(call absent)", (), None)
        self.kind("(shape nat absent)", (), None)
        self.kind("(family absent)", (), None)
        self.kind("(call head N 0 (shape vec some N 0 0 (shape vec none N)))",
                  (PLAIN, PLAIN, ("as", (PLAIN,) * 4, (), ())), None)
        fits = (PLAIN, PLAIN, PLAIN, ("as", (PLAIN,), (), ()))
        self.kind("(call head N 0 (shape vec some N 0 0 (shape vec none N)))", (PLAIN, PLAIN, ("as", fits, (), ())), "N")

    def test_as(self):
        self.fit("0", "N", PLAIN, True)
        self.fit("0", "(call kindby Y)", PLAIN, False)
        self.fit("0", "(call kindby Y)", ("as", (), (), ((),)), True)
        self.fit("0", "(call kindby Y)", ("as", (), ((),), ()), False)
        self.fit("0", "(call kindby F)", ("as", (), (), ((),)), False)
        # Both ways may go on to any one term.
        around = tele("run (family list (call kindby Y))")
        for left, right, holds in (((), (), True), (((0,),), ((0,),), True), (((0,),), (), False), ((), ((0,),), False)):
            self.fit("@0", "(family list (call kindby Y))", ("as", (), left, right), holds, around)

    def test_a_fun_by_both_fits(self):
        self.fit("(fun run N @0)", "(to run N N)", ("as", ((), (), ()), (), ()), True)
        self.fit("(fun run N @0)", "(to run N N)", ("under", (), (), (), (), (), PLAIN), True)
        self.fit("0", "N", ("under", (), (), (), (), (), PLAIN), False)
        self.fit("(fun run N @0)", "(to gone N N)", ("under", (), (), (), (), (), PLAIN), False)
        self.fit("(fun gone N @0)", "(to run N N)", ("under", (), (), (), (), (), PLAIN), False)
        self.fit("(fun run N @0)", "N", ("under", (), (), (), (), (), PLAIN), False)
        self.fit("(fun run B @0)", "(to run N N)", ("under", (), (), (), (), (), PLAIN), False)
        self.fit("(fun run 0 0)", "(to run 0 N)", ("under", (), (PLAIN,), (), (), (), PLAIN), False)
        self.fit("(fun run N @0)", "(to run N B)", ("under", (), (), (), (), (), PLAIN), False)
        self.fit("(fun gone N @0)", "(to gone N N)", ("under", (), (), (), (), (), PLAIN), False)
        self.fit("(fun gone N @0)", "(to gone N N)", ("under", (), (), (), (), (), PLAIN), True, (), "gone")
        self.fit("(fun run N @0)", "(to run (call kindby Y) N)", ("under", (), (), (), (), ((),), PLAIN), True)
        self.fit("(fun run N @0)", "(to run (call kindby Y) N)", ("under", ((0,),), (), (), (), (), PLAIN), True)
        self.fit("(fun run N @0)", "(to run (call kindby Y) N)", ("under", (), (), (), (), (), PLAIN), False)

    def test_ways_that_both_go_no_step(self):
        for way in (((),), ((0,),), None, [], (None,), ((True,),), 0):
            self.fit("0", "N", ("as", (), way, way), False)
            self.fit("0", "B", ("as", (), way, way), False)
            self.fit("(fun run N @0)", "(to run N N)", ("under", (), (), (), way, way, PLAIN), False)
            self.fit("(fun run N @0)", "(to run B N)", ("under", (), (), (), way, way, PLAIN), False)

    def test_words_of_fits(self):
        for word in ("as", "under", "at", "", None, True, ("as",)):
            self.fit("0", "N", (word, (), (), ()), word == "as")
            self.fit("(fun run N @0)", "(to run N N)", (word, (), (), (), (), (), PLAIN), word == "under")

    def test_what_is_no_fun_beneath_a_to(self):
        self.fit("(to run N N)", "(to run N !0)", ("under", (), (), (), (), (), PLAIN), False)
        self.fit("(to run N N)", "!0", PLAIN[:1] + (((), (), (), ()),) + PLAIN[2:], True)
        self.fit("(give run @0 0)", "(to run N N)", ("under", (), (), (), (), (), PLAIN), False, tele("run (to run N N)"))

    def test_what_is_no_to(self):
        around = tele("run (to run N !0)", "run (give run @0 0)")
        self.kind("(give run @0 0)", ((), (), PLAIN), None, around)
        self.kind("(give run @0 0)", ((), (), ("as", (), (), ())), None, around)
        self.kind("(give run (to run N N) 0)", (((), (), (), ()), (), PLAIN), None)

    def test_manners(self):
        around = tele("gone N", "gone !0")
        self.kind("(S @1)", (PLAIN,), None, around)
        self.kind("(S @1)", (PLAIN,), "N", around, "gone")
        self.kind("(call add @1 0)", (PLAIN, PLAIN), None, around)
        self.kind("(shape box boxed N @1)", (PLAIN, PLAIN), "(family box N)", around)
        self.kind("(shape list nil @0)", (PLAIN,), "(family list @0)", around)
        self.kind("(fun run @0 0)", ((), (), ()), "(to run @0 N)", around)
        self.assertIsNone(kind_by(SCOPE, ("at", 1), (), around=around))
        self.assertIs(fit_holds(SCOPE, ("at", 1), NAT, PLAIN, around=around), False)
        self.assertIsNone(kind_by(SCOPE, ("at", 0), ()))
        self.assertIs(fit_holds(SCOPE, ("at", 0), NAT, PLAIN), False)

    def test_no_calls_of_open_items_and_no_holes(self):
        scope = SCOPE.with_item(("open", "wish", (), NAT))
        self.kind("(call wish)", (), None, scope=scope)
        self.kind("(S (call wish))", (PLAIN,), None, scope=scope)
        self.fit("(call wish)", "N", PLAIN, False, scope=scope)
        for thing in ((), PLAIN, (PLAIN,), None):
            self.kind("?a", thing, None)
            self.kind("?nat", thing, None)
            self.kind("?add", thing, None)
            self.fit("?a", "N", thing, False)
            self.kind("(S ?a)", (thing,), None)

    def test_of_anything(self):
        for text in JUDGED[:22]:
            term = t(text)
            kind = kind_of(SCOPE, term)
            paper = kind_paper(SCOPE, term)
            for thing in ODD_THINGS:
                self.assertEqual(kind_by(SCOPE, term, thing), kind if thing == paper == () else None)
                self.assertIs(fit_holds(SCOPE, term, kind, thing), False)
                self.assertIs(fit_holds(SCOPE, term, kind, ("as", thing, (), ())), thing == paper == ())
                self.assertIs(fit_holds(SCOPE, term, kind, ("as", paper, thing, ())), thing == ())
                self.assertIs(fit_holds(SCOPE, term, kind, ("as", paper, (), thing)), thing == ())
                self.assertIs(fit_holds(SCOPE, term, kind, ("under", thing, (), (), (), (), thing)), False)
        for thing in ODD_THINGS:
            self.assertIsNone(kind_by(SCOPE, t("(fun run N 0)"), thing))
            self.assertIsNone(kind_by(SCOPE, t("(give run (fun run N 0) 0)"), (((), (), ()), (), thing)))

    def test_whatever_is_let_by_the_judge_lets_by(self):
        some = 0
        for text in JUDGED:
            term = t(text)
            kind = kind_of(SCOPE, term)
            paper = kind_paper(SCOPE, term)
            for at, thing in enumerate(changed(paper)):
                if at < 4000:
                    kept = copy.deepcopy(thing)
                    told = kind_by(SCOPE, term, thing)
                    self.assertEqual(thing, kept)
                    some = some + (told is not None)
                    if told is not None:
                        self.assertTrue(are_alike(SCOPE, told, kind))
            fitting = fit_paper(SCOPE, term, kind)
            for at, thing in enumerate(changed(fitting)):
                if at < 2000 and fit_holds(SCOPE, term, kind, thing):
                    some = some + 1
                    self.assertIsNone(fit(SCOPE, term, kind))
        self.assertGreater(some, 0)

    def test_what_the_judge_refuses_no_paper_lets_by(self):
        papers = [kind_paper(SCOPE, t(text)) for text in JUDGED]
        fits = [("as", paper, (), ()) for paper in papers] + [("under", (), (), (), (), (), fit) for fit in (PLAIN,)]
        for text in ("(S Y)", "(call add Y 0)", "(give run 0 0)", "(fun gone N @0)", "@0", "!9", "(to run 0 N)",
                     "(call absent)", "(shape list cons N Y (shape list nil N))", "(fun run 0 0)"):
            self.assertRaises(Unjudged, kind_of, SCOPE, t(text))
            for paper in papers + [(one,) for one in papers] + [(one, two) for one in fits for two in fits]:
                self.assertIsNone(kind_by(SCOPE, t(text), paper))
            for paper in papers:
                self.assertIsNone(kind_by(SCOPE, t(text), (("as", paper, (), ()),) * 3))
        for text, kind in (("0", "B"), ("(fun run N 0)", "(to run B N)"), ("N", "!1")):
            for thing in fits:
                self.assertIs(fit_holds(SCOPE, t(text), t(kind), thing), False)

    def test_what_was_told_however_great(self):
        deep = number(3000)
        paper = kind_paper(SCOPE, deep)
        self.assertEqual(kind_by(SCOPE, deep, paper), NAT)
        self.assertIs(fit_holds(SCOPE, deep, NAT, ("as", paper, (), ())), True)
        self.assertIs(fit_holds(SCOPE, deep, t("B"), ("as", paper, (), ())), False)
        self.assertIsNone(kind_by(SCOPE, number(3001), paper))
        self.assertIsNone(kind_by(SCOPE, number(2999), paper))
        funs, kind = ZERO, NAT
        for _ in range(1000):
            funs, kind = ("fun", "run", NAT, funs), ("to", "run", NAT, kind)
        self.assertIs(fit_holds(SCOPE, funs, kind, fit_paper(SCOPE, funs, kind)), True)
        self.assertIs(fit_holds(SCOPE, funs, kind[3], fit_paper(SCOPE, funs, kind)), False)

    def test_by_names_and_unchanged(self):
        around = tele("run N")
        self.assertEqual(kind_by(scope=SCOPE, term=("at", 0), thing=(), around=around, manner="gone"), NAT)
        self.assertIs(fit_holds(scope=SCOPE, term=("at", 0), kind=NAT, thing=PLAIN, around=around, manner="run"), True)
        self.assertRaises(TypeError, kind_by, SCOPE, ZERO, (), ())
        self.assertRaises(TypeError, fit_holds, SCOPE, ZERO, NAT, PLAIN, ())
        self.assertEqual(SCOPE, whole())
        self.assertIsNone(kind_by(Scope(), NAT, ()))


if __name__ == "__main__":
    unittest.main()
