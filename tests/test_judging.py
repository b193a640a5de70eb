import copy
import unittest

from kindsbyworth.covers import covered
from kindsbyworth.errors import (
    Holds, Idle, Lacks, NoEnd, NoItem, NoRow, Ring, Taken, TongueError, TooGreat, TooLong, Unclear, Unjudged,
)
from kindsbyworth.holes import lifted, opened, wishes
from kindsbyworth.itemtexts import read_item
from kindsbyworth.judging import judged
from kindsbyworth.scopes import Scope
from tests.library import ORDER, TEXTS, item, scope_of, t, tele, whole
from tests.paperchecks import is_paper
from tests.samples import NAT, ODD_THINGS, TERMS, ZERO, number

FIRST = read_item("""define first -
take run !0
take run !0
result !0
row * *
body @1""")
WORDS = {"N": "(family nat)", "B": "(family bool)", "V": "(family void)", "0": "(shape nat zero)",
         "1": "(shape nat next (shape nat zero))", "S": "shape nat next", "Y": "(shape bool yes)", "F": "(shape bool no)"}
SCOPE = whole().with_item(FIRST)


def long(text):
    """The text of an item with the words of WORDS written out."""
    lines = []
    for line in text.split("\n"):
        words = line.replace("(", "( ").replace(")", " )").split(" ")
        keeps = words[0] in ("family", "shape", "define")
        made = " ".join([word if keeps and at < 3 else WORDS.get(word, word) for at, word in enumerate(words)])
        lines.append(made.replace("( ", "(").replace(" )", ")"))
    return "\n".join(lines)


def made(*lines):
    return read_item(long("\n".join(lines)))


class Judging(unittest.TestCase):
    def refused(self, error, fields, thing, scope=SCOPE, **more):
        with self.assertRaises(error) as caught:
            judged(scope, thing, **more)
        self.assertEqual(vars(caught.exception), fields)
        self.assertIsInstance(caught.exception, TongueError)

    def let_by(self, thing, scope=SCOPE):
        paper = judged(scope, thing)
        self.assertTrue(is_paper(scope, thing, paper))
        return paper


class ItemTest(Judging):
    def test_no_item(self):
        for thing in ODD_THINGS + TERMS + (item("add") + ((),), list(item("add")), item("nat")[:5],
                                           ("open", "wish", (), NAT), (item("nat"),), Scope()):
            with self.assertRaises(NoItem):
                judged(Scope(), thing)

    def test_no_item_goes_ahead_of_taken(self):
        hole = ("hole", "a")
        for bodies in ((hole, hole), (("hole", "f"), ZERO)):
            with self.assertRaises(NoItem):
                judged(scope_of("nat").with_item(made("family f 0")),
                       ("lot", (("f", (), NAT, None, tuple(((), body) for body in bodies)),)))

    def test_taken(self):
        self.refused(Taken, {"name": "nat"}, item("nat"))
        self.refused(Taken, {"name": "nat"}, made("family nat 0", "param N"))
        self.refused(Taken, {"name": "odd"}, made("define f -", "result N", "define odd -", "result N"))
        self.refused(Taken, {"name": "odd"}, made("define odd -", "result N", "define even -", "result N"))
        self.refused(Taken, {"name": "add"}, made("define f -", "result N", "row", "body ?nat", "row", "body ?add"))
        self.refused(Taken, {"name": "odd"}, made("define odd -", "result N", "row", "body ?add"))
        self.refused(Taken, {"name": "wish"}, made("family wish 0"), SCOPE.with_item(("open", "wish", (), NAT)))

    def test_taken_goes_ahead_of_what_is_judged(self):
        self.refused(Taken, {"name": "nat"}, made("define f -", "take run 0", "result @9", "row *", "body ?nat"))
        self.refused(Taken, {"name": "nat"}, made("family nat 0", "param 0"))

    def test_the_library_is_let_by_one_behind_another(self):
        scope = Scope()
        for key in ORDER:
            self.let_by(item(key), scope)
            scope = scope.with_item(item(key))

    def test_far_names(self):
        self.let_by(made("family a.1.b 0", "shape one", "take run (family a.1.b)"), Scope())
        self.let_by(made("define a.1.b 0", "take run N", "result N", "row (zero)", "body 0", "row (next *)", "body (call a.1.b @0)"))

    def test_by_names_and_unchanged(self):
        add = item("add")
        kept = copy.deepcopy(add)
        scope = scope_of("nat")
        self.assertEqual(judged(scope=scope, item=add, most=100), judged(scope_of("nat"), kept))
        self.assertEqual((add, scope), (kept, scope_of("nat")))
        self.assertRaises(TypeError, judged, scope, add, 5)


class FamilyTest(Judging):
    def test_papers(self):
        self.assertEqual(judged(Scope(), item("nat")), ((), (), (((), ()), ((((), (), ()),), ()))))
        plain = ("as", (), (), ())
        self.assertEqual(judged(scope_of("nat"), item("vec")), ((((), ()),), (((), ()),), (
            ((), (plain,)),
            ((((), (), ()), ((), (), ()), ((plain, plain), (), ())), (("as", (plain,), (), ()),)))))
        self.assertEqual(judged(scope_of("nat", "bool"), made("family k 0")), ((), (), ()))

    def test_params_and_indexes(self):
        self.refused(Unjudged, {"spot": (), "word": "kind"}, made("family f 0", "param 0"))
        self.refused(Unjudged, {"spot": (0,), "word": "around"}, made("family f 0", "param !0", "param (family list @1)"))
        self.refused(Unjudged, {"spot": (), "word": "kind"}, made("family f 0", "param !0", "index Y"))
        self.refused(Unjudged, {"spot": (), "word": "around"}, made("family f 0", "param !0", "index @1"))
        self.refused(Unjudged, {"spot": (), "word": "world"}, made("family f 0", "param !0", "index !9"))
        self.let_by(made("family f 0", "param !0", "param @0", "index @1", "index (family eq @2 @1 @0)"))
        self.let_by(made("family f 0", "param !8"))

    def test_its_own_telescopes_do_not_know_it(self):
        self.refused(Unjudged, {"spot": (), "word": "name"}, made("family f 0", "param (family f)"))
        self.refused(Unjudged, {"spot": (), "word": "name"}, made("family f 0", "index (family f)"))

    def test_arguments(self):
        self.refused(Unjudged, {"spot": (), "word": "kind"}, made("family f 0", "shape s", "take run 0"))
        self.refused(Unjudged, {"spot": (), "word": "around"}, made("family f 0", "shape s", "take run N", "take run @1"))
        self.refused(Unjudged, {"spot": (), "word": "many"}, made("family f 0", "param N", "shape s", "take run (family f)"))
        self.refused(Unjudged, {"spot": (0,), "word": "unlike"}, made("family f 0", "param N", "shape s", "take run (family f Y)"))
        self.let_by(made("family f 0", "param N", "shape s", "take gone B", "take run (family f @1)"))
        self.let_by(made("family f 2", "param !0", "shape s", "take run @0", "take gone (family eq @1 @0 @0)"))

    def test_marks_of_arguments_do_not_matter_in_kinds(self):
        self.let_by(made("family f 1", "shape s", "take gone !0", "take run @0"))
        self.let_by(made("family f 2", "shape s", "take gone N", "take gone (family eq N @0 0)"))

    def test_high(self):
        self.refused(Unjudged, {"spot": (), "word": "high"}, made("family f 0", "shape s", "take run !0"))
        self.let_by(made("family f 1", "shape s", "take run !0"))
        self.refused(Unjudged, {"spot": (), "word": "high"}, made("family f 1", "shape s", "take run !1"))
        self.refused(Unjudged, {"spot": (), "word": "high"}, made("family f 0", "shape s", "take gone (family list N)"))
        self.refused(Unjudged, {"spot": (), "word": "high"}, made("family f 0", "shape s", "take run (to run !0 @0)"))
        self.refused(Unjudged, {"spot": (), "word": "high"}, made("family f 7", "shape s", "take run !7"))
        self.let_by(made("family f 8", "shape s", "take run !7"))
        self.refused(Unjudged, {"spot": (), "word": "high"}, made("family f 8", "shape s", "take run !8"))

    def test_holds(self):
        tree = ("family f 0", "shape s", "take run N")
        for kind in ("(to run (family f) N)", "(to run (to run (family f) N) (family f))", "(to run (to run N (family f)) N)",
                     "(to run N (to gone (family f) (family f)))", "(to gone (family f) B)"):
            self.refused(Holds, {"shape": "s", "k": 1}, made(*tree, "take run " + kind))
        # In a term of another family it is not the end.
        self.refused(Holds, {"shape": "s", "k": 1}, made("family f 1", "shape s", "take run N", "take run (family list (family f))")
                     [:4] + (1, (("s", tele("run N", "run (family wrap (family f))"), ()),)),
                     SCOPE.with_item(made("family wrap 0", "param !1", "shape w")))
        self.let_by(made(*tree, "take run (to run N (to gone B (family f)))"))
        self.let_by(made(*tree, "take run (family f)", "take gone (to run N (family f))"))

    def test_holds_of_the_outcome(self):
        start = ("family f 0", "shape s", "take run N")
        self.let_by(made(*start, "take run (call first (family f) N)"))
        self.let_by(made(*start, "take run (call first N (family f))"))
        self.let_by(made(*start, "take run (call first (to run N (family f)) B)"))
        self.refused(Holds, {"shape": "s", "k": 1}, made(*start, "take run (call first (to run (family f) N) B)"))
        self.refused(Holds, {"shape": "s", "k": 1}, made(*start, "take run (to run (call first (family f) N) B)"))
        self.let_by(made(*start, "take run (to run (call first N (family f)) B)"))

    def test_a_shape_of_it_is_held_too(self):
        scope = SCOPE.with_item(made("family of 1", "index (to run !0 !0)"))
        start = ("family f 1", "shape s", "shape t")
        kind = "(family of (fun run !0 (give gone (fun gone (family f) @1) (shape f s))))"
        self.let_by(made(*start, "take gone " + kind), scope)
        scope = SCOPE.with_item(made("define pick -", "take gone !1", "take gone @0", "take run !0", "result !0", "row * * *", "body @0",
                                     "define stuck -", "take gone !1", "take gone @0", "take run N", "result !0",
                                     "row * * (zero)", "body N", "row * * (next *)", "body N"))
        self.let_by(made(*start, "take gone N", "take run (call pick (family f) (shape f s) N)"), scope)
        self.refused(Holds, {"shape": "t", "k": 1},
                     made(*start, "take gone N", "take run (call stuck (family f) (shape f s) @0)"), scope)

    def test_very_params_first(self):
        self.let_by(made("family f 1", "param !0", "param N", "index B", "shape s", "take run @1",
                         "take run (family f @2 @1 Y)", "take run (to run @3 (family f @4 @3 F))", "end Y"))
        for kind in ("(family f @2 0 Y)", "(family f N @1 Y)", "(family f @2 (call add 0 (S @1)) Y)"):
            self.refused(Holds, {"shape": "s", "k": 1}, made("family f 1", "param !0", "param N", "index B", "shape s",
                                                             "take run @1", "take run " + kind, "end Y"))
        self.let_by(made("family f 1", "param N", "shape s", "take run (family f (call add 0 @0))"))
        two = ("family f 0", "param N", "param N", "shape s")
        self.let_by(made(*two, "take run (family f @1 @0)"))
        self.refused(Holds, {"shape": "s", "k": 0}, made(*two, "take run (family f @0 @1)"))
        self.refused(Holds, {"shape": "s", "k": 1}, made(*two, "take run N", "take run (family f @1 @0)"))
        self.let_by(made(*two, "take run N", "take run (family f @2 @1)"))

    def test_further_terms_without_it(self):
        family = ("family", "f", (), tele("gone !0"), 0, (
            ("s", tele("run (family f N)"), (t("N"),)), ("t", tele("run (family f (family f N))"), (t("N"),))))
        self.refused(Holds, {"shape": "t", "k": 0}, family)
        self.refused(Holds, {"shape": "u", "k": 0}, made("family f 0", "index !0", "shape u", "take run (to run N (family f (family f B)))", "end N"))

    def test_ends(self):
        self.refused(Unjudged, {"spot": (), "word": "unlike"}, made("family f 0", "index N", "shape s", "end Y"))
        self.refused(Unjudged, {"spot": (0,), "word": "unlike"}, made("family f 0", "index N", "shape s", "end (S Y)"))
        self.refused(Unjudged, {"spot": (), "word": "unlike"}, made("family f 0", "index N", "index (family eq N @0 0)", "shape s", "end 1", "end (shape eq same N 1)"))
        self.let_by(made("family f 0", "index N", "index (family eq N @0 1)", "shape s", "end 1", "end (shape eq same N 1)"))
        self.let_by(made("family f 1", "param !0", "index N", "index @1", "shape s", "take gone @0", "take gone N",
                         "end (call add @0 1)", "end @1"))

    def test_indexes_of_params(self):
        self.let_by(made("family f 1", "param !0", "param @0", "index @1", "index (family eq @2 @1 @0)", "shape s", "end @0",
                         "end (shape eq same @1 @0)"))
        self.let_by(made("family f 1", "param !0", "param @0", "index @1", "index (family eq @2 @1 @0)", "shape s", "take gone N", "end @1",
                         "end (shape eq same @2 @1)"))

    def test_ends_have_not_the_family(self):
        start = ("family f 0", "index !0", "index !0")
        self.refused(Holds, {"shape": "s", "k": 0}, made(*start, "shape s", "end (family f N N)", "end N"))
        self.refused(Holds, {"shape": "s", "k": 1}, made(*start, "shape s", "end N", "end (to run N (family f N N))"))
        self.refused(Holds, {"shape": "s", "k": 3}, made(*start, "shape s", "take run N", "take run B", "end N", "end (family f N N)"))
        # As they stand: though a step drops it.
        self.refused(Holds, {"shape": "s", "k": 0}, made(*start, "shape s", "end (call first N (family f N N))", "end N"))
        self.refused(Holds, {"shape": "t", "k": 0}, made("family f 0", "index N", "shape s", "end 0", "shape t",
                                                         "end (give gone (fun gone (family f 0) 0) (shape f s))"))

    def test_the_order_of_refusals(self):
        self.refused(Unjudged, {"spot": (), "word": "kind"}, made("family f 0", "param 0", "param Y", "index @9"))
        self.refused(Unjudged, {"spot": (), "word": "around"}, made("family f 0", "param !0", "index @9", "shape s", "take run !5", "end 0"))
        # Argument by argument: its kind, its world, then Holds.
        self.refused(Unjudged, {"spot": (), "word": "high"}, made("family f 0", "shape s", "take run (to run (to run (family f) !0) N)"))
        self.refused(Holds, {"shape": "s", "k": 0}, made("family f 0", "shape s", "take run (to run (family f) N)", "take run !3"))
        self.refused(Unjudged, {"spot": (), "word": "high"}, made("family f 0", "shape s", "take run !3", "take run (to run (family f) N)"))
        # Arguments ahead of ends, end by end, shape by shape.
        self.refused(Holds, {"shape": "s", "k": 0}, made("family f 0", "index N", "shape s", "take run (to run (family f 0) N)", "end Y"))
        self.refused(Unjudged, {"spot": (), "word": "unlike"}, made("family f 0", "index N", "index !0", "shape s", "end Y", "end (family f 0 N)"))
        self.refused(Holds, {"shape": "s", "k": 0}, made("family f 0", "index !0", "index N", "shape s", "end (family f N 0)", "end Y"))
        self.refused(Unjudged, {"spot": (), "word": "unlike"}, made("family f 0", "index N", "shape s", "end Y", "shape t", "take run !4", "end 0"))

    def test_by_the_scope_with_the_family(self):
        self.let_by(made("family f 0", "index N", "shape s", "end 0", "shape t", "take run (family f 0)", "end 1"))
        self.let_by(made("family f 0", "shape s", "shape t", "take run (family f)", "take gone B"))


class LotTest(Judging):
    def test_papers(self):
        plain = ("as", (), (), ())
        ask = ("ask", (), (((), ("row", 0)), ((), ("row", 1))))
        add = (((((), ()), ((), ())), ((), ()), 0, (
            ((((), ()),), ((),), plain),
            ((((), ()),), ((), ()), ("as", (("as", (plain, plain), (), ()),), (), ()))), ask),)
        self.assertEqual(judged(scope_of("nat"), item("add")), add)

    def test_telescopes_and_results(self):
        self.refused(Unjudged, {"spot": (), "word": "kind"}, made("define f -", "take run 0", "result N"))
        self.refused(Unjudged, {"spot": (), "word": "kind"}, made("define f -", "take run N", "take run @0", "result N"))
        self.refused(Unjudged, {"spot": (), "word": "kind"}, made("define f -", "take run N", "result @0"))
        self.refused(Unjudged, {"spot": (0,), "word": "around"}, made("define f -", "result (family list @0)"))
        self.refused(Unjudged, {"spot": (), "word": "world"}, made("define f -", "result !9"))
        self.let_by(made("define f -", "take gone !0", "take gone @0", "result (family eq @1 @0 @0)", "row * *", "body (shape eq same @1 @0)"))

    def test_by_the_scope_without_it(self):
        self.refused(Unjudged, {"spot": (), "word": "name"}, made("define f -", "result (call f)"))
        self.refused(Unjudged, {"spot": (), "word": "name"}, made("define f -", "result !0", "row", "body N", "define g -", "take run (call f)", "result N"))

    def test_each_telescope_ahead_of_rows(self):
        self.refused(Unjudged, {"spot": (), "word": "kind"}, made("define f -", "take run N", "result N", "row (yes)", "body Y", "define g -", "take run 0", "result N"))

    def row(self, word, *lines, row=0):
        self.refused(NoRow, {"row": row, "word": word}, made(*lines))

    def test_gone_places(self):
        self.row("gone", "define f -", "take gone N", "result N", "row (zero)", "body 0")
        self.row("gone", "define f -", "take run (family box N)", "result N", "row (boxed (zero))", "body 0")
        self.row("gone", "define f -", "take gone V", "result N", "row (absent * *)", "body 0")
        self.refused(Unjudged, {"spot": (), "word": "gone"}, made("define f -", "take run (family box N)", "result N", "row (boxed *)", "body @0"))
        self.let_by(made("define f -", "take run (family box N)", "result (family box N)", "row (boxed *)", "body (shape box boxed N @0)"))

    def test_the_kind_s_head_is_a_family(self):
        self.row("family", "define f -", "take run (to run N N)", "result N", "row (zero)", "body 0")
        self.row("family", "define f -", "take gone !0", "take run @0", "result N", "row * (zero)", "body 0")
        self.row("family", "define f -", "take run B", "take run (call kindby @0)", "result N", "row * (zero)", "body 0")
        self.let_by(made("define f -", "take run B", "take run (call kindby @0)", "result N", "row (yes) *", "body @0", "row (no) (yes)", "body 0", "row (no) (no)", "body 1"))
        self.let_by(made("define f -", "take run (call kindby Y)", "result N", "row (zero)", "body 0", "row *", "body @0"))

    def test_that_has_such_a_shape(self):
        self.row("shape", "define f -", "take run N", "result N", "row (yes)", "body 0")
        self.row("shape", "define f -", "take run N", "result N", "row (next (next (yes)))", "body 0")
        self.row("shape", "define f -", "take run V", "result N", "row (zero * * *)", "body 0")

    def test_of_as_many_arguments(self):
        self.row("many", "define f -", "take run N", "result N", "row (next)", "body 0")
        self.row("many", "define f -", "take run N", "result N", "row (zero *)", "body 0")
        self.row("many", "define f -", "take run (family list N)", "result N", "row (cons * * *)", "body 0")

    def test_places_in_order(self):
        self.row("many", "define f -", "take run N", "take gone N", "result N", "row (next) (zero)", "body 0")
        self.row("gone", "define f -", "take gone N", "take run N", "result N", "row (zero) (next)", "body 0")
        self.row("shape", "define f -", "take run (family list N)", "take run N", "result N", "row (cons (yes) *) (next)", "body 0")
        self.row("many", "define f -", "take run N", "result N", "row (zero)", "body 0", "row (next)", "body Y", row=1)

    def test_never(self):
        self.row("never", "define f -", "take run (family vec N 0)", "result N", "row (some * * *)", "body 0")
        self.row("never", "define f -", "take run (family eq N 0 1)", "result N", "row (same)", "body 0")
        self.row("never", "define f -", "take run (family eq N (S (call add 1 0)) 1)", "result N", "row (same)", "body 0")
        self.row("never", "define f -", "take run (family eq B Y F)", "take gone N", "result N", "row (same) (zero)", "body 0")
        self.row("never", "define f -", "take gone N", "take run (family vec N @0)", "take run (family eq N @1 1)", "result N", "row - (none) (same)", "body 0")

    def test_unclear(self):
        self.row("unclear", "define f -", "take gone N", "take run (family vec N @0)", "result N", "row * (none)", "body 0")
        self.row("unclear", "define f -", "take gone N", "result N", "row -", "body 0")
        self.row("unclear", "define f -", "take run N", "take run (family eq N @0 (S @0))", "result N", "row - (same)", "body 0")
        self.row("unclear", "define f -", "take gone N", "take gone N", "take run (family eq N (call add @1 @0) 0)", "result N", "row * * (same)", "body 0")

    def test_a_take_s_kind_is_open_in_takes_ahead_alone(self):
        lines = ("define f -", "take gone N", "take run (family vec N @0)", "take gone N", "take run (family eq N @2 @0)", "result N")
        self.row("unclear", *lines, "row - * * (same)", "body 0")
        self.let_by(made(*lines, "row * * - (same)", "body 0"))
        # The outcome alone is asked: where a step drops what comes later, the row is let by.
        self.let_by(made("define f -", "take gone N", "take run (call first N (family fin @0))", "take gone N",
                         "take run (family eq N @2 @0)", "result N", "row - * * (same)", "body 0"))

    def test_what_is_solved(self):
        # Of two due names the later one.
        paper = self.let_by(made("define f -", "take gone N", "take gone N", "take run (family eq N @1 @0)", "take run (family eq N @2 0)",
                                 "result (family eq N @3 @2)", "row - - (same) (same)", "body (shape eq same N 0)"))
        self.assertEqual(paper[0][3][0][0], (((), (("solve", 0), ("same",))), ((), (("solve", 1), ("same",)))))
        # What is left is gone through again behind a later place.
        paper = self.let_by(made("define f -", "take gone N", "take run (family eq N (call add @0 1) 1)", "take run (family eq N @1 0)",
                                 "result N", "row - * (same)", "body 0"))
        scope = SCOPE.with_item(made("define g -", "take gone N", "take run (family vec N (call add @0 0))", "take run (family eq N @1 0)",
                                     "result N"))
        self.refused(Unclear, {"name": "f"}, made("define f -", "take gone N", "take run (family vec N (call add @0 0))",
                                                  "take run (family eq N @1 0)", "result N", "row - (none) (same)", "body 0"), scope)

    def test_of_two_due_names_the_later_one_whatever_their_marks(self):
        for first, second in (("run", "run"), ("run", "gone"), ("gone", "run"), ("gone", "gone")):
            lines = ("define f -", f"take {first} N", f"take {second} N", "take run (family eq N @1 @0)", "take run (family eq N @2 0)", "result N",
                     "row - - (same) (same)", "body 0")
            self.assertEqual(self.let_by(made(*lines))[0][3][0][0][0], ((), (("solve", 0), ("same",))))
            turned = [line.replace("(family eq N @1 @0)", "(family eq N @0 @1)") for line in lines]
            self.assertEqual(self.let_by(made(*turned))[0][3][0][0][0], ((), (("solve", 1), ("same",))))

    def test_left_for_a_later_place(self):
        paper = self.let_by(made("define f -", "take gone N", "take run (family vec N (call add @0 0))", "take run (family eq N @1 0)",
                                 "take run B", "result N", "row - * (same) (yes)", "body 0", "row - (none) (same) (no)", "body 1"))
        self.assertEqual(paper[0][3][1][0][:2], (
            ((), (("later",),)), ((), (("later",), ("solve", 1), ("same",), ("walk", ((),), ()), ("same",)))))

    def test_sides_that_are_the_same_of_takes(self):
        paper = self.let_by(made("define f -", "take gone N", "take run (family eq N @0 @0)", "result N", "row * (same)", "body 0"))
        self.assertEqual(paper[0][3][0][0], (((), (("same",),)),))

    def test_several_equations(self):
        scope = SCOPE.with_item(made("family two 0", "index N", "index N", "shape mk", "take gone N", "take gone N", "end @1", "end @0"))
        scope = scope.with_item(made("family both 0", "index N", "index N", "shape at", "take gone N", "end 0", "end @0"))
        paper = self.let_by(made("define f -", "take gone N", "take run (family both 0 @0)", "result N", "row * (at -)", "body 0"), scope)
        self.assertEqual(paper[0][3][0][0], (((), (("same",), ("solve", 1), ("same",))),))
        self.row("never", "define f -", "take gone N", "take run (family eq N @0 1)", "take run (family eq N @1 0)", "result N",
                 "row - (same) (same)", "body 0")
        self.let_by(made("define f -", "take gone N", "take run (family both 1 @0)", "result N"), scope)
        self.let_by(made("define f -", "take gone N", "take gone N", "take run (family two @1 @0)", "result N", "row - - (mk * *)", "body 0"), scope)

    def test_walks_of_either_side(self):
        for index, lines in (("1", ()), ("(call add 0 1)", ()), ("(call add 1 (call add 0 0))", ())):
            for other in ("1", "(call add 1 0)"):
                paper = self.let_by(made("define f -", f"take run (family eq N {index} {other})", "result N", "row (same)", "body 0"))
                self.assertEqual(paper[0][3][0][0][0][1][-1], ("same",))

    def test_families_that_are_unlike_are_no_never(self):
        scope = SCOPE.with_item(made("family rep 0", "index !0", "shape ofnat", "end N", "shape ofbool", "end B"))
        self.row_in(scope, "unclear", "define f -", "take run (family rep B)", "result N", "row (ofnat)", "body 0")
        self.let_by(made("define f -", "take run (family rep N)", "result N", "row *", "body 0"), scope)
        self.row_in(scope, "unclear", "define f -", "take gone N", "take run (family eq N @0 0)", "result N", "row * (same)", "body 0")

    def row_in(self, scope, word, *lines):
        self.refused(NoRow, {"row": 0, "word": word}, made(*lines), scope)

    def test_names_beneath_bodies_in_kinds(self):
        self.let_by(made("define f -", "take gone N", "take run (to run N (family fin @1))", "take run (family eq N @1 1)",
                         "result (to gone B (to run N (family fin 1)))", "row - * (same)", "body (fun gone B @1)"))
        self.let_by(made("define f -", "take gone N", "take run (to gone N (family fin @0))", "take gone N",
                         "result (to gone N (family fin @0))", "row * * *", "body @1"))
        self.let_by(made("define f -", "take gone N", "take gone N", "take run (to run B (to gone N (family eq N @3 @0)))",
                         "result (to run B (to gone N (family eq N @4 @0)))", "row * * *", "body @0"))

    def test_solved_by_a_take(self):
        self.let_by(made("define f -", "take gone N", "take gone N", "take run (family eq N @1 @0)", "result (family eq N @1 @2)",
                         "row * - (same)", "body (shape eq same N @0)"))
        self.let_by(made("define f -", "take gone N", "take gone N", "take run (family eq N @1 @0)", "result (family eq N @1 @2)",
                         "row - * (same)", "body (shape eq same N @0)"))

    def test_peeled(self):
        paper = self.let_by(made("define f -", "take gone N", "take run (family vec N (S @0))", "result N", "row * (some - * *)", "body @1"))
        self.assertEqual(paper[0][3][0][0], (((), (("peel",), ("solve", 1), ("same",))),))
        lists = SCOPE.with_item(made("family two 0", "index N", "index N", "shape mk", "take gone N", "take gone N", "end @1", "end @0"))
        paper = self.let_by(made("define f -", "take gone N", "take gone N", "take run (family two (S @1) @0)", "result N", "row * - (mk - *)", "body 0"), lists)

    def test_bodies(self):
        self.refused(Unjudged, {"spot": (), "word": "unlike"}, made("define f -", "take run N", "result B", "row *", "body @0"))
        self.refused(Unjudged, {"spot": (0,), "word": "unlike"}, made("define f -", "take run N", "result N", "row *", "body (S Y)"))
        self.refused(Unjudged, {"spot": (), "word": "gone"}, made("define f -", "take gone N", "result N", "row *", "body @0"))
        self.refused(Unjudged, {"spot": (), "word": "around"}, made("define f -", "take run N", "result N", "row (zero)", "body @0"))
        self.refused(Unjudged, {"spot": (), "word": "unlike"}, made("define f -", "take run B", "result (call kindby @0)", "row (yes)", "body Y", "row (no)", "body Y"))
        self.let_by(made("define f -", "take run B", "result (call kindby @0)", "row (yes)", "body 0", "row (no)", "body Y"))

    def test_calls_of_the_lot_wait_while_it_is_judged(self):
        lines = ("define two -", "result N", "row", "body (S 1)", "define f -", "result (family vec B (S 1))", "row",
                 "body (shape vec some B {} Y (shape vec some B 0 Y (shape vec none B)))")
        self.let_by(made(*[line.format("1") for line in lines]))
        waits = ("define one -", "result N", "row", "body 1", "define f -", "result (family vec B (S 1))", "row",
                 "body (shape vec some B (call one) Y (shape vec some B 0 Y (shape vec none B)))")
        self.refused(Unjudged, {"spot": (3,), "word": "unlike"}, made(*waits))

    def test_bodies_row_by_row_definition_by_definition(self):
        self.row("shape", "define f -", "take run N", "result N", "row (yes)", "body 0", "row *", "body Y")
        self.refused(Unjudged, {"spot": (), "word": "unlike"}, made("define f -", "take run N", "result N", "row *", "body Y", "row (yes)", "body 0"))
        self.row("shape", "define g -", "result N", "define f -", "take run N", "result N", "row (yes)", "body 0")

    def test_ends(self):
        self.refused(NoEnd, {"name": "f", "row": 1}, made("define f 0", "take run N", "result N", "row (zero)", "body 0", "row (next *)", "body (call f (S @0))"))
        self.refused(NoEnd, {"name": "f", "row": 0}, made("define f -", "result N", "row", "body (call f)"))
        with self.assertRaises(Ring) as caught:
            judged(SCOPE, made("define f 0", "take run N", "result N", "row *", "body (call g @0)", "define g 0", "take run N", "result N", "row *", "body (call f @0)"))
        self.assertEqual(sorted(caught.exception.names), ["f", "g"])

    def test_rows_ahead_of_ends_ahead_of_covers(self):
        self.refused(Unjudged, {"spot": (), "word": "unlike"}, made("define f -", "result N", "row", "body (call f)", "define g -", "result N", "row", "body Y"))
        self.refused(NoEnd, {"name": "g", "row": 0}, made("define f -", "result N", "define g -", "result N", "row", "body (call g)"))
        self.refused(Ring, {"names": ("g",)}, made("define f -", "result N", "define g 0", "take run N", "result N", "row *", "body (call g @0)"))
        self.refused(Lacks, {"name": "f", "arguments": ()}, made("define f -", "result N", "define g -", "result N", "row", "body 0", "row", "body 0"))
        self.refused(Idle, {"name": "f", "row": 1}, made("define f -", "result N", "row", "body 0", "row", "body 0", "define g -", "result N"))

    def test_staying_calls_have_lower_numbers(self):
        paper = self.let_by(made("define f 0", "take run N", "result N", "row *", "body (call g @0)", "define g 0", "take run N", "result N",
                                 "row (zero)", "body 0", "row (next *)", "body (call f @0)"))
        self.assertGreater(paper[0][2], paper[1][2])

    def test_lacks(self):
        self.refused(Lacks, {"name": "f", "arguments": (ZERO,)}, made("define f -", "take run N", "result N", "row (next *)", "body @0"))
        self.refused(Lacks, {"name": "f", "arguments": (number(2),)}, made("define f -", "take run N", "result N", "row (zero)", "body 0", "row (next (zero))", "body 0"))
        self.refused(Lacks, {"name": "f", "arguments": (ZERO,)}, made("define f -", "take run N", "result N", "row (next *)", "body ?a"))

    def test_lacks_ahead_of_unclear_ahead_of_idle_by_definitions(self):
        start = ("define f -", "take run N", "result N", "row *", "body 0")
        self.refused(Idle, {"name": "f", "row": 1}, made(*start, "row (zero)", "body 0", "row *", "body 0"))
        unclear = ("define g -", "take gone V", "result N")
        self.refused(Unclear, {"name": "g"}, made(*start, *unclear, "define h -", "result N"))
        self.refused(Lacks, {"name": "h", "arguments": ()}, made(*start, "define h -", "result N", *unclear))

    def test_told_as_covered_tells(self):
        for lines in (("define f -", "take run N", "result N", "row (zero)", "body 0"), ("define f -", "take gone V", "result N"),
                      ("define f -", "take run B", "result N", "row *", "body 0", "row *", "body 0")):
            lot = made(*lines)
            waiting = ("lot", (lot[1][0][:4] + ((),),))
            told = covered(SCOPE.with_item(waiting), lot[1][0])
            fields = {"lacks": (Lacks, {"name": "f", "arguments": told[-1]}), "unclear": (Unclear, {"name": "f"}),
                      "covers": (Idle, {"name": "f", "row": 1})}
            self.refused(*fields[told[0]], lot)

    def test_bounds(self):
        twice = made("define f -", "result (family vec B (call add 1 1))", "row",
                     "body (shape vec some B 1 Y (shape vec some B 0 Y (shape vec none B)))")
        self.let_by(twice)
        self.refused(TooLong, {"most": 1}, twice, most=1)
        deep = ("family", "vec", (t("B"), ("give", "run", t("(fun run N (S @0))"), number(40))))
        lot = ("lot", (("f", (), deep, None, (((), t("(shape vec none B)")),)),))
        self.refused(TooGreat, {"size": 44}, lot)

    def test_the_terms_of_places_are_put_in_the_result(self):
        start = ("define f -", "take run N", "take run (family list B)", "result (family eq N @1 @1)")
        for row, body in (("(next (next *)) *", "(S (S @1))"), ("(next (next (next *))) (cons * (cons * *))", "(S (S (S @3)))"),
                          ("(zero) (cons * *)", "0"), ("(next (zero)) *", "1"), ("* *", "@1")):
            lines = start + ("row " + row, f"body (shape eq same N {body})", "row * *", "body (shape eq same N @1)")
            if row == "* *":
                lines = lines[:6]
            self.let_by(made(*lines))
            self.refused(Unjudged, {"spot": (), "word": "unlike"}, made(*lines[:5], f"body (shape eq same N (S {body}))"))

    def test_the_terms_of_places_within_one_another(self):
        scope = SCOPE.with_item(made("family bits 0", "param N", "shape nil", "shape cons", "take run B", "take run (family bits @1)"))
        lines = ("define f -", "take run N", "take run (family bits 1)", "result (family eq (family bits 1) @0 @0)",
                 "row * (cons * (cons * *))", "body (shape eq same (family bits 1) (shape bits cons 1 @2 (shape bits cons 1 @1 @0)))",
                 "row * *", "body (shape eq same (family bits 1) @0)")
        self.let_by(made(*lines), scope)

    def test_patterns_within_one_another(self):
        pattern = ("take",)
        for _ in range(120):
            pattern = ("shape", "next", (pattern,))
        lot = ("lot", (("f", (("run", NAT),), NAT, 0, (((pattern,), ("call", "f", (("at", 0),))), ((("take",),), ZERO))),))
        paper = judged(SCOPE, lot)
        self.assertEqual(len(paper[0][3][0][0]), 120)
        self.refused(NoRow, {"row": 0, "word": "gone"}, ("lot", (("f", (("gone", NAT),), NAT, 0, lot[1][0][4]),)))

    def test_holes_are_lifted_first(self):
        lot = made("define f 0", "take run N", "result N", "row (zero)", "body ?b", "row (next *)", "body (call add ?a (call f @0))")
        paper = self.let_by(lot)
        self.assertEqual(len(paper[0][3]), 2)
        self.assertEqual([row[0] for row in wishes(SCOPE, lot)], ["a", "b"])
        self.assertEqual(opened(wishes(SCOPE, lot))[1], ("open", "b", (), NAT))
        self.refused(Unjudged, {"spot": (), "word": "name"}, lifted(lot))

    def test_definitions_of_the_text(self):
        for key, text in TEXTS.items():
            self.assertEqual(read_item(text), item(key))


if __name__ == "__main__":
    unittest.main()
