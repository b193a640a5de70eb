import copy
import unittest

from kindsbyworth.holes import lifted, opened, wishes
from kindsbyworth.itemchecks import paper_holds
from kindsbyworth.judging import judged
from kindsbyworth.scopes import Scope
from kindsbyworth.used import read_by, unfolded_by
from tests.library import ORDER, item, whole
from tests.test_itemchecks import FIRST, library
from tests.test_judging import made

SCOPE = whole().with_item(FIRST)
# What each item of the library reads, and what judged's paper of it unfolds.
READ = {
    "nat": "", "bool": "", "void": "", "list": "", "vec": "nat", "fin": "nat", "eq": "", "tree": "nat", "box": "",
    "add": "nat", "twice": "nat", "even": "bool nat", "kindby": "bool nat", "append": "add nat vec", "head": "nat vec",
    "sym": "eq", "never": "nat void", "pred": "nat", "same": "",
}


class UsedTest(unittest.TestCase):
    def used(self, thing, read, unfolded, scope=SCOPE, paper=None):
        paper = judged(scope, thing) if paper is None else paper
        self.assertTrue(paper_holds(scope, thing, paper))
        self.assertEqual(read_by(scope, thing, paper), tuple(read.split()))
        self.assertEqual(unfolded_by(scope, thing, paper), tuple(unfolded.split()))

    def test_the_library(self):
        for (scope, thing), key in zip(library(), ORDER):
            self.used(thing, READ[key], "add" if key == "append" else "", scope)

    def test_what_ways_step_by(self):
        self.used(made("define f -", "take run (call kindby Y)", "result N", "row *", "body @0"), "bool kindby nat", "kindby")
        self.used(made("define f -", "take run (call kindby Y)", "result B", "row *", "body Y"), "bool kindby nat", "kindby")
        self.used(made("family f 0", "param (call first N N)"), "first nat", "")
        self.used(made("family f 0", "shape s", "take run (call first N (family f))"), "first nat", "first")
        self.used(made("define f -", "result (family fin (call add 1 0))", "row", "body (shape fin first 0)"), "add fin nat", "add")

    def test_a_step_of_a_give_unfolds_none(self):
        self.used(made("define f -", "result (give run (fun run B N) Y)", "row", "body 0"), "bool nat", "")

    def test_ways_of_moves_too(self):
        lines = ("take run (family eq N (call add 0 1) 1)", "result N", "row (same)", "body 0")
        self.used(made("define f -", *lines), "add eq nat", "add")
        self.used(made("define f -", "take run (family vec N (call add 0 1))", "result N", "row (some - * *)", "body 0"), "add nat vec", "add")
        # In the tree alone.
        self.used(made("define f -", "take run (family fin (call add 0 0))", "result N"), "add fin nat", "add")

    def test_just_what_the_paper_steps_by(self):
        thing = made("define f -", "take run (call first N B)", "result N", "row *", "body 0")
        paper = judged(SCOPE, thing)
        self.used(thing, "bool first nat", "first")
        other = ((paper[0][0], paper[0][1], 0, (((), ((),), paper[0][3][0][2]),), paper[0][4]),)
        self.used(thing, "bool first nat", "", paper=other)

    def test_rows_of_those_unfolded(self):
        # kindby's rows name nat and bool; its head, bool alone.
        scope = SCOPE.with_item(made("define pick -", "take run B", "result !0", "row (yes)", "body (family tree)", "row (no)", "body V"))
        self.used(made("define f -", "take run (call pick Y)", "result !1", "row *", "body !0"), "bool nat pick tree void", "pick", scope)
        self.used(made("define f -", "result (to run (call pick Y) !1)", "row", "body (fun run (call pick Y) !0)"), "bool pick", "", scope)

    def test_heads_of_those_read(self):
        scope = SCOPE.with_item(made("family wrap 0", "param (family list N)", "index (family eq B Y Y)", "shape w", "take gone (family tree)",
                                     "end (shape eq same B Y)"))
        scope = scope.with_item(made("define deep -", "take gone (family list N)", "take gone (family eq B Y Y)", "result (to run V !0)", "row * *",
                                     "body (fun run V (family wrap @2 @1))"))
        self.used(made("define f -", "result !0", "row", "body (to run (family wrap (shape list nil N) (shape eq same B Y)) N)"),
                  "bool eq list nat tree wrap", "", scope)
        self.used(made("define f -", "take run V", "result !0", "row *",
                       "body (give run (call deep (shape list nil N) (shape eq same B Y)) @0)"), "bool deep eq list nat void", "", scope)

    def test_but_its_own_names(self):
        self.used(item("even"), "bool nat", "", whole_ahead("even"))
        self.used(made("family f 0", "shape s", "take run N", "take run (family f)"), "nat", "")

    def test_and_open_ones(self):
        thing = made("define f 0", "take run N", "result N", "row (zero)", "body ?a", "row (next *)", "body (call add ?b (call f @0))")
        scope = Scope(SCOPE.all_items + opened(wishes(SCOPE, thing)))
        self.used(lifted(thing), "add nat", "", scope, judged(SCOPE, thing))

    def test_far_names(self):
        scope = Scope((made("family base.1.nat 0", "shape zero", "shape next", "take run (family base.1.nat)"),
                       made("define base.1.that -", "result !0", "row", "body (family base.1.nat)")))
        self.used(made("define f -", "result (call base.1.that)", "row", "body (shape base.1.nat zero)"), "base.1.nat base.1.that",
                  "base.1.that", scope)

    def test_by_names_and_unchanged(self):
        scope, thing = whole_ahead("append"), item("append")
        paper = judged(scope, thing)
        kept = copy.deepcopy(paper)
        self.assertEqual(read_by(scope=scope, item=thing, paper=paper), ("add", "nat", "vec"))
        self.assertEqual(unfolded_by(scope=scope, item=thing, paper=paper), ("add",))
        self.assertEqual((thing, paper, scope), (item("append"), kept, whole_ahead("append")))


def whole_ahead(key):
    """A Scope of all items of the library ahead of this one."""
    return Scope(tuple([item(name) for name in ORDER[:ORDER.index(key)]]))


if __name__ == "__main__":
    unittest.main()
