import copy
import random
import unittest

from kindsbyworth.errors import TongueError
from kindsbyworth.holes import lifted, opened, wishes
from kindsbyworth.itemchecks import paper_holds
from kindsbyworth.items import is_item
from kindsbyworth.judging import judged
from kindsbyworth.scopes import Scope
from tests.library import ORDER, item, scope_of, t, tele, whole
from tests.paperchecks import is_paper
from tests.papers import FIT, changed, one_changed
from tests.samples import NAT, ODD_THINGS, ZERO
from tests.test_changed_items import Changes
from tests.test_judging import FIRST, made

SCOPE = whole().with_item(FIRST)
WORLD = ((), ())


def library():
    """(scope, item) for each item of the library."""
    found = []
    scope = Scope()
    for key in ORDER:
        found.append((scope, item(key)))
        scope = scope.with_item(item(key))
    return found


def with_spot(thing, spot, other):
    """The paper with another thing at a spot."""
    if not spot:
        return other
    return thing[:spot[0]] + (with_spot(thing[spot[0]], spot[1:], other),) + thing[spot[0] + 1:]


class Checks(unittest.TestCase):
    def holds(self, thing, paper, wanted=True, scope=SCOPE):
        kept = copy.deepcopy(paper)
        self.assertIs(paper_holds(scope, thing, paper), wanted)
        self.assertEqual(paper, kept)

    def only(self, thing, papers, others, scope=SCOPE):
        """Just the papers among these hold."""
        for paper in papers:
            self.holds(thing, paper, True, scope)
        for paper in others:
            self.holds(thing, paper, False, scope)


class JudgedTest(Checks):
    def test_what_judged_tells_is_let_by(self):
        for scope, thing in library():
            self.holds(thing, judged(scope, thing), scope=scope)
            self.assertIs(paper_holds(scope=scope, item=thing, thing=judged(scope, thing)), True)

    def test_of_anything(self):
        for scope, thing in library():
            paper = judged(scope, thing)
            for odd in ODD_THINGS:
                self.holds(thing, odd, odd == paper, scope)
                self.holds(thing, (odd,), False, scope)
                self.holds(thing, (odd, odd, odd), odd == () and is_paper(scope, thing, ((), (), ())), scope)
                self.holds(thing, ((odd,) * 5,), False, scope)

    def test_just_what_the_other_reading_lets_by(self):
        some = 0
        for scope, thing in library():
            paper = judged(scope, thing)
            seen = 0
            for other in changed(paper):
                seen = seen + 1
                if seen < 1500 or seen % 17 == 0:
                    told = paper_holds(scope, thing, other)
                    self.assertIs(told, is_paper(scope, thing, other), (thing, other))
                    some = some + told
        self.assertGreater(some, 20)

    def test_of_changed_items_too(self):
        changes = Changes(11)
        items = [item(key) for key in ORDER]
        some, let_by = 0, 0
        while some < 250:
            at = changes.chance.randrange(len(ORDER))
            scope, thing = Scope(tuple(items[:at])), changes.item(items[at])
            if not is_item(thing):
                continue
            try:
                paper = judged(scope, thing)
            except TongueError:
                # What judged refuses no paper of the like lets by, if its reckonings weren't too long.
                self.holds(thing, judged(scope, items[at]), False, scope)
                continue
            if thing == items[at] or lifted(thing) != thing:
                continue
            some = some + 1
            self.holds(thing, paper, True, scope)
            for _ in range(60):
                other = one_changed(changes.chance, paper)
                told = paper_holds(scope, thing, other)
                let_by = let_by + told
                self.assertIs(told, is_paper(scope, thing, other), (thing, other))
        self.assertGreater(let_by, 20)

    def test_papers_of_other_items(self):
        told = [(scope, thing, judged(scope, thing)) for scope, thing in library()]
        for scope, thing, paper in told:
            for _, other, further in told:
                self.holds(thing, further, is_paper(scope, thing, further), scope)

    def test_names_taken(self):
        for scope, thing in library():
            self.holds(thing, judged(scope, thing), False, scope.with_item(thing))
        even = item("even")
        paper = judged(scope_of("nat", "bool"), even)
        self.holds(even, paper, True, scope_of("nat", "bool"))
        odd = made("define odd -", "result N", "row", "body 0")
        self.holds(even, paper, False, scope_of("nat", "bool").with_item(odd))
        self.holds(even, paper, False, scope_of("nat", "bool").with_item(("open", "odd", (), NAT)))

    def test_deep_trees(self):
        lines = ["define f -", "take run N", "result N"]
        deep = "(next " * 5
        for levels in range(6):
            lines.extend(["row " + "(next " * levels + "(zero)" + ")" * levels, "body 0"])
        lines.extend(["row " + deep + "(next *)" + ")" * 5, "body 0"])
        thing = made(*lines)
        self.holds(thing, judged(SCOPE, thing))


class FamilyTest(Checks):
    def test_three_parts(self):
        thing = made("family f 0", "param N", "index B")
        good = ((WORLD,), (WORLD,), ())
        self.only(thing, [good], [
            (), good[:2], good + ((),), list(good), ((), (WORLD,), ()), ((WORLD, WORLD), (WORLD,), ()), ((WORLD,), (), ()),
            ((WORLD,), (WORLD,), (((), ()),)), (((),), (WORLD,), ()), (([(), ()],), (WORLD,), ()), ((((), (), ()),), (WORLD,), ()),
            (((((),), ()),), (WORLD,), ()), ((((), ((),)),), (WORLD,), ())])

    def test_telescopes_know_those_ahead(self):
        # The family stands behind its params: eq's kinds know !0, @0.
        thing = made("family f 2", "param !0", "param @0", "index (family eq @1 @0 @0)")
        self.holds(thing, judged(SCOPE, thing))
        thing = made("family f 2", "param !0", "index (family f @0)")
        self.holds(thing, ((WORLD,), (((FIT,), ()),), ()), False)

    def test_kinds_by_ways_to_worlds(self):
        thing = made("family f 0", "param (call kindby Y)")
        self.only(thing, [((((FIT,), ()),), (), ())], [((((FIT,), ((),)),), (), ()), ((WORLD,), (), ())])
        thing = made("family f 0", "param 0")
        self.only(thing, [], [((((FIT,), ()),), (), ()), (((), ()), (), ())])

    def test_arguments(self):
        thing = made("family f 0", "shape s", "take run N", "take run (family f)")
        good = ((), (), ((((), (), ()), ((), (), ())), ()))
        self.holds(thing, ((), (), (((((), (), ()), ((), (), ())), ()),)))
        self.only(thing, [], [good, ((), (), ((((), (), ()),), ())), ((), (), (((((), ()), ((), (), ())), ()),)),
                              ((), (), (((((), (), ((),)), ((), (), ())), ()),))])

    def test_worlds_no_greater(self):
        for world, text, wanted in ((0, "!0", False), (1, "!0", True), (1, "!1", False), (2, "!1", True),
                                    (0, "(family list N)", False), (1, "(family list N)", True)):
            paper = ((), (), (((((FIT,) if "list" in text else (), (), ()),), ()),))
            self.holds(made(f"family f {world}", "shape s", "take run " + text), paper, wanted)

    def test_held(self):
        def paper(held):
            return ((), (), (((((FIT, FIT), (), held),), ()),))

        thing = made("family f 0", "shape s", "take run (call first N (family f))")
        self.only(thing, [paper(((),))], [paper(()), paper(((0,),)), paper(None), paper(((), ()))])
        thing = made("family f 0", "shape s", "take run (call first (family f) N)")
        self.only(thing, [paper(((),))], [paper(())])
        plain = ((), (), ((((((), (), (), ()), (), ()),), ()),))
        for kind, wanted in (("(to run N (family f))", True), ("(to run (family f) N)", False),
                             ("(to run N (to gone B (family f)))", None)):
            thing = made("family f 0", "shape s", "take run " + kind)
            if wanted is not None:
                self.holds(thing, plain, wanted)
        thing = made("family f 0", "param N", "shape s", "take run (family f 0)")
        self.holds(thing, ((WORLD,), (), (((((FIT,), (), ()),), ()),)), False)
        thing = made("family f 0", "param N", "shape s", "take run (family f @0)")
        self.holds(thing, ((WORLD,), (), (((((FIT,), (), ()),), ()),)))

    def test_ends(self):
        thing = made("family f 0", "index N", "index (family eq N @0 0)", "shape s", "end 0", "end (shape eq same N 0)")
        paper = judged(SCOPE, thing)
        self.holds(thing, paper)
        ends = paper[2][0][1]
        for other in ((), ends[:1], ends + (FIT,), (ends[0], FIT), (None, ends[1]), list(ends)):
            self.holds(thing, with_spot(paper, (2, 0, 1), other), False)
        wrong = made("family f 0", "index N", "index (family eq N @0 0)", "shape s", "end 1", "end (shape eq same N 0)")
        self.holds(wrong, paper, False)
        thing = made("family f 0", "index !0", "shape s", "end (family f N)")
        self.holds(thing, ((), (WORLD,), (((), (("as", (FIT,), (), ()),)),)), False)
        self.holds(made("family f 0", "index !0", "shape s", "end (family list N)"),
                   ((), (WORLD,), (((), (("as", (FIT,), (), ()),)),)), False)

    def test_shapes(self):
        thing = made("family f 0", "shape s", "shape t")
        empty = ((), ())
        self.only(thing, [((), (), (empty, empty))], [((), (), (empty,)), ((), (), (empty,) * 3), ((), (), (empty, ())),
                                                       ((), (), ([(), ()], empty)), ((), (), [empty, empty])])


class HeadTest(Checks):
    def test_five_parts(self):
        thing = made("define f -", "result N", "row", "body 0")
        row = ((), (), FIT)
        good = ((), ((), ()), 0, (row,), ("row", 0))
        self.holds(thing, (good,))
        for at, others in enumerate((((WORLD,), None, []), ((), (((),), ()), None), (-1, True, None, "0", ()),
                                     ((), (row, row), row, None), (("row", 1), ("row", False), ("row",), (), None))):
            for other in others:
                self.holds(thing, (with_spot(good, (at,), other),), False)
        for other in ((), (good, good), good, [good], (good[:4],), (good + ((),),)):
            self.holds(thing, other, False)

    def test_heads_by_the_scope_without_it(self):
        thing = made("define f -", "result (call f)")
        self.holds(thing, (((), ((), ()), 0, (), ("row", 0)),), False)
        thing = made("define f -", "result !0", "row", "body N", "define g -", "take run (call f)", "result N")
        self.holds(thing, (((), ((), ()), 0, (((), (), FIT),), ("row", 0)),
                           ((((), ()),), ((), ()), 0, (), ("row", 0))), False)

    def test_no_calls_of_open_items_in_heads(self):
        scope = SCOPE.with_item(("open", "wish", (), ("world", 0)))
        for lines in (("define f -", "result (call wish)"), ("define f -", "take run (call wish)", "result N")):
            thing = made(*lines)
            self.holds(thing, (((WORLD,) * (len(lines) - 2), ((), ()), 0, (), ("row", 0)),), False, scope)
        thing = made("family f 1", "param (call wish)")
        self.holds(thing, ((WORLD,), (), ()), False, scope)

    def test_numbers(self):
        thing = made("define f 0", "take run N", "result N", "row *", "body (call g @0)",
                     "define g 0", "take run N", "result N", "row (zero)", "body 0", "row (next *)", "body (call f @0)")
        paper = judged(SCOPE, thing)
        for first, second, wanted in ((1, 0, True), (2, 0, True), (10 ** 39, 7, True), (0, 0, False), (0, 1, False), (1, 1, False),
                                      (True, 0, False), (1, False, False), (1, -1, False), (1, None, False), ("1", "0", False)):
            self.holds(thing, with_spot(with_spot(paper, (0, 2), first), (1, 2), second), wanted)

    def test_calls_end(self):
        plain = ("as", (FIT,), (), ())
        for less, body, wanted in (("0", "(call f @0)", True), ("-", "(call f @0)", False), ("0", "(call f (S @0))", False)):
            thing = made("define f " + less, "take run N", "result N", "row (zero)", "body 0", "row (next *)", "body " + body)
            fit = ("as", (plain if "S" in body else FIT,), (), ())
            paper = ((((), ()),), ((), ()), 0, ((((((), ())),), (), FIT), ((((), ()),), ((),), fit)),
                     ("ask", (), (((), ("row", 0)), ((), ("row", 1)))))
            paper = with_spot(paper, (3, 0), ((((), ()),), (), FIT))
            self.holds(thing, (paper,), wanted)


class RowTest(Checks):
    def one_row(self, thing, row, wanted, at=0):
        """The paper of the lot's first definition with another row's paper."""
        self.holds(thing, with_spot(judged(SCOPE, thing), (0, 3, at), row), wanted)

    def test_asks(self):
        thing = made("define f -", "take run N", "result N", "row (zero)", "body 0", "row (next (next *))", "body @0", "row *", "body @0")
        ask = ((), ())
        self.one_row(thing, ((ask, ask), ((),), FIT), True, 1)
        for asks in ((), (ask,), (ask,) * 3, ask, [ask, ask], (ask, ((), (("same",),))), (ask, (((),), ())), (ask, ((), None)),
                     (ask, ((), (), ())), (ask, [(), ()])):
            self.one_row(thing, (asks, ((),), FIT), False, 1)

    def test_ways_to_a_family(self):
        thing = made("define f -", "take run (call kindby Y)", "result N", "row (zero)", "body 0", "row (next *)", "body @0")
        self.one_row(thing, (((((),), ()),), (), FIT), True)
        self.one_row(thing, ((((), ()),), (), FIT), False)
        self.one_row(thing, (((((), ()), ()),), (), FIT), False)
        # A way may go on beyond the head, in what stands in the family.
        thing = made("define f -", "take run (family vec N (call add 0 0))", "result N", "row (none)", "body 0")
        for way, moves, wanted in (((), (("walk", ((),), ()), ("same",)), True), (((1,),), (("same",),), True),
                                   ((), (("same",),), False), (((1,),), (("walk", ((),), ()), ("same",)), False)):
            self.one_row(thing, (((way, moves),), (), FIT), wanted)

    def test_ways_of_takes(self):
        thing = made("define f -", "take run (call kindby Y)", "result N", "row *", "body @0")
        self.one_row(thing, ((), (((),),), FIT), True)
        self.one_row(thing, ((), ((),), FIT), False)
        self.one_row(thing, ((), ((),), ("as", (), ((),), ())), True)
        for ways in ((), ((), ()), None, [()], (None,), (((0,),),)):
            self.one_row(thing, ((), ways, ("as", (), ((),), ())), False)
        # A kind that is open in what isn't a take ahead: a step drops this, or it doesn't.
        thing = made("define f -", "take gone N", "take run (call first N (family fin @0))", "take gone N",
                     "take run (family eq N @2 @0)", "result N", "row - * * (same)", "body 0")
        paper = judged(SCOPE, thing)
        self.holds(thing, paper)
        self.assertEqual(paper[0][3][0][1], (((),), ()))
        self.holds(thing, with_spot(paper, (0, 3, 0, 1, 0), ()), False)

    def test_due_names_are_solved(self):
        # The index is ahead, the shape's end behind: of eq this is its param.
        thing = made("define f -", "take gone N", "take run (family eq N @0 0)", "result N", "row - (same)", "body 0")
        good = (("solve", 1), ("same",))
        for moves, wanted in ((good, True), ((), False), ((("later",),), False), (good[:1], False), (good[1:], False),
                              ((("solve", 0), ("same",)), False), ((("solve", True), ("same",)), False),
                              ((("solve", 1), ("solve", 1), ("same",)), False), ((("later",),) * 3 + good, True),
                              ((("walk", (), ()),) + good, True), (good + good, False), (good + (("later",),), False),
                              ((("same", ()), ("same",)), False), ((["solve", 1], ("same",)), False)):
            self.one_row(thing, ((((), moves),), (), FIT), wanted)
        thing = made("define f -", "take gone N", "take run (family eq N 0 @0)", "result N", "row - (same)", "body 0")
        self.one_row(thing, ((((), (("solve", 0), ("same",))),), (), FIT), True)
        self.one_row(thing, ((((), (("solve", False), ("same",))),), (), FIT), False)
        self.one_row(thing, ((((), (("solve", 1), ("same",))),), (), FIT), False)

    def test_takes_are_not_solved(self):
        thing = made("define f -", "take gone N", "take gone N", "take run (family eq N @1 @0)", "result N", "row * - (same)", "body 0")
        for side, wanted in ((0, True), (1, False)):
            self.one_row(thing, ((((), (("solve", side), ("same",))),), ((),), FIT), wanted)

    def test_of_two_due_names_either(self):
        thing = made("define f -", "take gone N", "take gone N", "take run (family eq N @1 @0)", "take run (family eq N @2 0)",
                     "result N", "row - - (same) (same)", "body 0")
        for side in (0, 1):
            for last in (0, 1):
                asks = (((), (("solve", side), ("same",))), ((), (("solve", last), ("same",))))
                self.one_row(thing, (asks, (), FIT), last == 1)

    def test_not_open_in_the_other_side(self):
        thing = made("define f -", "take gone N", "take run (family eq N @0 (S @0))", "result N", "row - (same)", "body 0")
        for moves in ((("solve", 0), ("same",)), (("solve", 0),), (("later",),), (("same",),), (("solve", 1), ("same",))):
            paper = ((((), ()), (((FIT, FIT, ("as", (FIT,), (), ())), ()))), ((), ()), 0, (((((), moves),), (), FIT),), ("row", 0))
            self.holds(thing, (paper,), False)

    def test_peel_and_never(self):
        thing = made("define f -", "take gone N", "take run (family eq N (S @0) 1)", "result N", "row - (same)", "body 0")
        good = (("peel",), ("solve", 1), ("same",))
        for moves, wanted in ((good, True), ((("peel",), ("peel",)) + good[1:], False), (good[1:], False),
                              ((("peel",), ("never",)), False), ((("never",),), False), ((("later",), ("peel",)) + good[1:], True)):
            self.one_row(thing, ((((), moves),), (), FIT), wanted)
        never = made("define f -", "take run (family eq N 0 1)", "result N", "row (same)", "body 0")
        for moves in ((("never",),), (("peel",),), (("same",),), ()):
            heads = ((((FIT, FIT, ("as", (FIT,), (), ())), ()),), ((), ()), 0)
            self.holds(never, (heads + ((((((), moves),), (), FIT),), ("row", 0)),), False)

    def test_gone_places_families_shapes_many(self):
        for lines in (("take gone N", "result N", "row (zero)"), ("take run B", "result N", "row (zero)"),
                      ("take run N", "result N", "row (zero *)"), ("take run (to run N N)", "result N", "row (zero)")):
            thing = made("define f -", *lines, "body 0")
            for world in (((), ()), (((), (), (), ()), ())):
                self.holds(thing, (((world,), ((), ()), 0, (((((), ()),), (), FIT),), ("row", 0)),), False)
                self.holds(thing, (((world,), ((), ()), 0, (((((), ()),), ((),), FIT),),
                                    ("ask", (), (((), ("row", 0)), ((), ("row", 0))))),), False)

    def test_bodies(self):
        thing = made("define f -", "take gone N", "take run N", "result N", "row * *", "body @0")
        self.one_row(thing, ((), ((), ()), FIT), True)
        self.one_row(thing, ((), ((), ()), ("as", (), (), ((),))), False)
        self.one_row(thing, ((), ((), ()), ()), False)
        self.holds(made("define f -", "take gone N", "take run N", "result N", "row * *", "body @1"), judged(SCOPE, thing), False)
        # Its own calls wait in ways.
        thing = made("define f -", "result !0", "row", "body N")
        self.holds(thing, judged(SCOPE, thing))
        thing = made("define f -", "take run N", "result !0", "row (zero)", "body N", "row (next *)", "body N",
                     "define g -", "result N", "row", "body 0")
        self.holds(thing, judged(SCOPE, thing))


class TreeTest(Checks):
    def tree(self, thing, tree, wanted, at=0, scope=SCOPE):
        self.holds(thing, with_spot(judged(scope, thing), (at, 4), tree), wanted, scope)

    def test_rows(self):
        thing = made("define f -", "take run N", "result N", "row *", "body @0")
        for tree, wanted in ((("row", 0), True), (("row", 1), False), (("row", False), False), (("row", -1), False), (("row", "0"), False),
                             (("row",), False), (["row", 0], False), (("row", 0, 0), False), ((), False), (None, False),
                             (("ask", (), (((), ("row", 0)), ((), ("row", 0)))), False), (("empty", 0, (), ()), False)):
            self.tree(thing, tree, wanted)

    def test_asks(self):
        thing = made("define f -", "take run N", "result N", "row (zero)", "body 0", "row *", "body @0")
        zero, more = ((), ("row", 0)), ((), ("row", 1))
        self.tree(thing, ("ask", (), (zero, more)), True)
        for branches in ((), (zero,), (more, zero), (zero, more, more), (zero, None), (zero, ((), None)), (zero, (None, ("row", 1))),
                         [zero, more], (zero, [(), ("row", 1)]), (zero, ((), ("row", True))), (zero, ((("same",),), ("row", 1))),
                         (zero, zero), (more, more), (zero, ((), ("ask", (), (more, more)))), (zero, ((("never",),), None))):
            self.tree(thing, ("ask", (), branches), False)
        for way in (((),), None, [], ((0,),)):
            self.tree(thing, ("ask", way, (zero, more)), False)
        self.tree(thing, ("row", 1), False)

    def test_each_row_is_some_branch_s(self):
        lines = ("define f -", "take run N", "result N", "row *", "body 0")
        thing = made(*lines, "row *", "body 0")
        for tree in (("row", 0), ("row", 1)):
            self.holds(thing, (((WORLD,), ((), ()), 0, (((), ((),), FIT),) * 2, tree),), False)
        self.holds(made(*lines), (((WORLD,), ((), ()), 0, (((), ((),), FIT),), ("row", 0)),))

    def test_what_lacks_or_is_unclear(self):
        thing = made("define f -", "take run N", "result N", "row (zero)", "body 0")
        zero = ((), ("row", 0))
        row = (((((), ()),), (), FIT),)
        for last in (None, ("row", 0), ("empty", 0, (), ()), ("empty", 1, (), ((("never",),), (("never",),))), ()):
            self.holds(thing, (((WORLD,), ((), ()), 0, row, ("ask", (), (zero, ((), last)))),), False)
        thing = made("define f -", "take gone N", "take run (family vec N (call add @0 0))", "result N", "row * *", "body 0")
        self.holds(thing, judged(SCOPE, thing))

    def test_splits(self):
        thing = item("head")
        tree = judged(SCOPE_OF_HEAD, thing)[0][4]
        never, some = tree[2]
        self.assertEqual((never, some[1]), (((("never",),), None), ("row", 0)))
        for other in ((("never",), ("same",)), (), (("later",), ("never",)), (("later",), ("later",), ("never",))):
            self.holds(thing, with_spot(judged(SCOPE_OF_HEAD, thing), (0, 4, 2, 0, 0), other), "later" in str(other), SCOPE_OF_HEAD)
        self.holds(thing, with_spot(judged(SCOPE_OF_HEAD, thing), (0, 4, 2, 0, 1), ("row", 0)), False, SCOPE_OF_HEAD)
        for moves, wanted in ((some[0], True), ((("peel",), ("solve", 0), ("same",)), True), ((("peel",), ("solve", 1), ("same",)), True),
                              ((("peel",), ("later",), ("solve", 1), ("same",)), True), ((("peel",), ("later",)), False),
                              ((("peel",), ("solve", True), ("same",)), False), ((("solve", 0), ("same",)), False)):
            self.holds(thing, with_spot(judged(SCOPE_OF_HEAD, thing), (0, 4, 2, 1, 0), moves), wanted, SCOPE_OF_HEAD)

    def test_of_a_split_s_two_a_run_one_for_a_gone_one_too(self):
        thing = made("define f -", "take run N", "take gone N", "take run (family eq N @1 @0)", "result N", "row * - (same)", "body @0")
        tree = judged(SCOPE, thing)[0][4]
        self.assertEqual(tree, ("ask", (), (((("solve", 0), ("same",)), ("row", 0)),)))
        self.tree(thing, ("ask", (), (((("solve", 1), ("same",)), ("row", 0)),)), True)

    def test_empty(self):
        thing = made("define f -", "take gone N", "take run V", "take run B", "take run (family vec N (S @2))", "result N")
        none = (("never",),)
        for number, branches, wanted in ((1, (), True), (0, (), False), (2, (), False), (3, (), False), (3, (none, ()), False),
                                         (4, (), False), (True, (), False), (-1, (), False), (1, (none,), False), (1, [], False),
                                         (None, (), False), (1, None, False)):
            self.tree(thing, ("empty", number, (), branches), wanted)
        self.tree(thing, ("empty", 1, ((),), ()), False)
        self.tree(thing, ("row", 0), False)
        thing = made("define f -", "take run (family eq N 0 1)", "result N")
        for moves, wanted in ((none, True), ((("later",), ("never",)), True), ((), False), ((("same",),), False), ((("peel",),), False)):
            heads = ((((FIT, FIT, ("as", (FIT,), (), ())), ()),), ((), ()), 0, ())
            # eq's end is its very param: so the first equation is of a name that the split brings.
            self.holds(thing, (heads + (("empty", 0, (), (moves,)),),), wanted)

    def test_an_empty_name_is_run_and_unsolved(self):
        thing = made("define f -", "take gone V", "take run V", "result N")
        self.tree(thing, ("empty", 1, (), ()), True)
        self.tree(thing, ("empty", 0, (), ()), False)
        # A name that came with a split.
        thing = made("define f -", "take run (family list V)", "result N", "row (nil)", "body 0")
        self.tree(thing, ("ask", (), (((), ("row", 0)), ((), ("empty", 1, (), ())))), True)
        for number in (0, 2, 3):
            self.tree(thing, ("ask", (), (((), ("row", 0)), ((), ("empty", number, (), ())))), False)


SCOPE_OF_HEAD = scope_of("nat", "bool", "list", "vec")
HOLED = made("define f 0", "take run N", "result N", "row (zero)", "body ?a", "row (next *)", "body (call add ?b (call f @0))")


class HoleTest(Checks):
    def test_of_the_lifted_lot_by_its_open_ones(self):
        paper = judged(SCOPE, HOLED)
        scope = Scope(SCOPE.all_items + opened(wishes(SCOPE, HOLED)))
        self.holds(lifted(HOLED), paper, True, scope)
        self.holds(HOLED, paper, False, scope)
        self.holds(HOLED, paper, False)
        self.holds(lifted(HOLED), paper, False)

    def test_the_open_items_with_which_the_scope_ends(self):
        paper = judged(SCOPE, HOLED)
        open_ones = opened(wishes(SCOPE, HOLED))
        last = made("family last 0")
        lot = lifted(HOLED)
        for items, wanted in ((open_ones[::-1], True), (open_ones[:1], False), (open_ones + (last,), False),
                              ((last,) + open_ones, True), (open_ones[:1] + (last,) + open_ones[1:], False),
                              (open_ones + (("open", "other", (), NAT),), True)):
            self.holds(lot, paper, wanted, Scope(SCOPE.all_items + items))

    def test_an_open_item_of_another_kind(self):
        paper = judged(SCOPE, HOLED)
        lot = lifted(HOLED)
        for first, second, wanted in (
                ((), ("run", "N"), True), ((), ("gone", "N"), True), ((), ("run", "B"), False), ((("run", NAT),), ("run", "N"), False)):
            items = (("open", "a", first, NAT), ("open", "b", ((second[0], t(second[1])),), NAT))
            self.holds(lot, paper, wanted, Scope(SCOPE.all_items + items))

    def test_many_holes(self):
        for text in ("(shape nat next ?a)", "(call add ?a ?b)", "(give run (fun run N ?b) 0)",
                     "(call append N 0 0 ?a (shape vec none ?b))"):
            result = "(family vec N 0)" if "append" in text else "N"
            thing = made("define f -", "take gone N", "take run B", "result " + result, "row * *", "body " + text)
            try:
                paper = judged(SCOPE, thing)
            except TongueError:
                continue
            scope = Scope(SCOPE.all_items + opened(wishes(SCOPE, thing)))
            self.holds(lifted(thing), paper, True, scope)
            self.assertTrue(is_paper(SCOPE, thing, paper))

    def test_changed_papers_of_lifted_lots(self):
        chance = random.Random(3)
        paper = judged(SCOPE, HOLED)
        scope = Scope(SCOPE.all_items + opened(wishes(SCOPE, HOLED)))
        for _ in range(1500):
            other = one_changed(chance, paper)
            self.assertIs(paper_holds(scope, lifted(HOLED), other), is_paper(SCOPE, HOLED, other))

    def test_unchanged_and_by_names(self):
        scope = Scope(SCOPE.all_items)
        thing = item("add")
        self.assertIs(paper_holds(scope=scope_of("nat"), item=thing, thing=None), False)
        self.assertRaises(TypeError, paper_holds, scope, thing)
        self.assertEqual(scope, SCOPE)
        self.assertEqual(tele("run N"), (("run", NAT),))
        self.assertEqual(ZERO, t("0"))


if __name__ == "__main__":
    unittest.main()
