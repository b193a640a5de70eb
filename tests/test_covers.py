import copy
import itertools
import random
import unittest

from kindsbyworth.bench import Bench
from kindsbyworth.covers import covered, lacks_holds
from kindsbyworth.equations import Names
from kindsbyworth.errors import TooLong, Unclear
from kindsbyworth.itemtexts import read_item
from kindsbyworth.judging import judged
from kindsbyworth.kinds import fit
from kindsbyworth.putting import put_in
from kindsbyworth.steps import rows_met
from tests.library import ORDER, TEXTS, item, scope_of, t, tele, whole
from tests.paperchecks import check_tree
from tests.plaincover import plain_cover
from tests.samples import DUE, NAT, ODD_THINGS, TAKE, ZERO, next_of, number, shaped

SCOPE = whole()
FAMILIES = scope_of("nat", "bool", "void", "list", "vec", "fin", "eq", "tree", "box", "add", "kindby", "same")


def told_by(scope, definition, **more):
    """What covered tells; a tree that is told is gone through by what 18 says of it."""
    told = covered(scope, definition, **more)
    if told[0] == "covers":
        names, terms = Names(Bench(scope, 2000), True), ()
        for mark, kind in definition[1]:
            terms = terms + (names.named(mark, put_in(kind, terms), True),)
        used = []
        check_tree(scope, definition, names, terms, told[1], used)
        assert told[2] == tuple(row for row in range(len(definition[4])) if row not in used)
    elif told[0] == "lacks":
        assert lacks_holds(scope, definition, told[1]) is True
    else:
        assert told == ("unclear",)
    return told


def rows_of(*texts):
    """Rows of these patterns, as items write them, all of one body."""
    lines = ["define f -"] + ["take run !0"] * len(patterns_of(texts[0])) + ["result !0"]
    for text in texts:
        lines.extend([("row " + text).rstrip(), "body @0"])
    return read_item("\n".join(lines))[1][0][4]


def patterns_of(text):
    deep, many = 0, 0
    for word in text.replace("(", " ( ").replace(")", " ) ").split():
        many = many + (deep == 0)
        deep = deep + (word == "(") - (word == ")")
    return range(many)


def table(telescope, *texts):
    return ("f", tele(*telescope), NAT, None, rows_of(*texts) if texts else ())


class CoverTest(unittest.TestCase):
    def covers(self, idle, telescope, *texts, scope=FAMILIES):
        told = told_by(scope, table(telescope, *texts))
        self.assertEqual(told[0], "covers")
        self.assertEqual(told[2], idle)
        return told[1]

    def lacks(self, telescope, *texts, scope=FAMILIES):
        told = told_by(scope, table(telescope, *texts))
        self.assertEqual(told[0], "lacks")
        return told[1]

    def unclear(self, telescope, *texts, scope=FAMILIES):
        self.assertEqual(told_by(scope, table(telescope, *texts)), ("unclear",))

    def test_rows_without_shapes(self):
        self.assertEqual(self.covers((), ("run N",), "*"), ("row", 0))
        self.assertEqual(self.covers((), ("run N",), "-"), ("row", 0))
        self.assertEqual(self.covers((1, 2), ("run N", "run B"), "* -", "(zero) *", "* *"), ("row", 0))

    def test_asks(self):
        tree = self.covers((), ("run N",), "(zero)", "(next *)")
        self.assertEqual(tree, ("ask", (), (((), ("row", 0)), ((), ("row", 1)))))
        tree = self.covers((), ("run B",), "(no)", "*")
        self.assertEqual(tree, ("ask", (), (((), ("row", 1)), ((), ("row", 0)))))
        tree = self.covers((), ("run N",), "(next (next *))", "(next (zero))", "(zero)")
        self.assertEqual(tree, ("ask", (), (((), ("row", 2)), ((), ("ask", (), (((), ("row", 1)), ((), ("row", 0))))))))

    def test_the_first_row_that_is_not_shut_out_tells(self):
        tree = self.covers((3,), ("run N", "run B"), "(zero) (yes)", "* (no)", "(next *) *", "(zero) *")
        self.assertEqual(tree, ("ask", (), (
            ((), ("ask", (), (((), ("row", 0)), ((), ("row", 1))))),
            ((), ("ask", (), (((), ("row", 2)), ((), ("row", 1))))))))

    def test_patterns_in_order_each_through_and_through(self):
        tree = self.covers((), ("run N", "run B"), "(next (zero)) (yes)", "* *")
        self.assertEqual(tree, ("ask", (), (
            ((), ("row", 1)),
            ((), ("ask", (), (((), ("ask", (), (((), ("row", 0)), ((), ("row", 1))))), ((), ("row", 1))))))))

    def test_the_kind_s_head(self):
        tree = self.covers((), ("run (call kindby Y)",), "(zero)", "(next *)")
        self.assertEqual(tree, ("ask", ((),), (((), ("row", 0)), ((), ("row", 1)))))
        tree = self.covers((), ("run B", "run (call kindby @0)"), "(yes) (zero)", "(yes) (next *)", "(no) (no)", "(no) *")
        self.assertEqual(tree[2][0][1][1], ((),))

    def test_idle(self):
        self.covers((1,), ("run N",), "(zero)", "(zero)", "*")
        self.covers((2, 3), ("run N",), "(zero)", "(next *)", "(next (zero))", "*")

    def test_lacks(self):
        self.assertEqual(self.lacks(("run N",), "(zero)"), (number(1),))
        self.assertEqual(self.lacks(("run N",), "(next *)"), (ZERO,))
        self.assertEqual(self.lacks(("run N", "run B"), "(next *) *", "(zero) (yes)"), (ZERO, t("F")))
        self.assertEqual(self.lacks(("gone B", "run N"), "* (zero)", "* (next (zero))")[1], number(2))
        self.assertEqual(self.lacks(("run N",)), (ZERO,))
        self.assertEqual(self.lacks(("gone N",)), (ZERO,))

    def test_lacks_in_every_order_of_branches(self):
        # The branch ahead lacks nothing that is plain; the one behind does, so it is told.
        text = """family odd 0
shape only
take run (family void)
shape plain"""
        scope = FAMILIES.with_item(read_item(text))
        told = told_by(scope, ("f", tele("run B", "run (call kindby @0)"), NAT, None, ()))
        self.assertIn(told[0], ("lacks", "unclear"))
        self.assertEqual(self.lacks(("run B", "run (family odd)"), "(yes) (plain)", "(no) (only *)", scope=scope),
                         (t("F"), ("shape", "odd", "plain", ())))

    def test_lacks_with_a_shape_without_arguments_wherever_it_stands(self):
        for shapes in ("shape only\ntake run (family void)\nshape plain\nshape last",
                       "shape deep\ntake run (family odd)\ntake run (family odd)\nshape plain", "shape plain"):
            scope = FAMILIES.with_item(read_item("family odd 0\n" + shapes))
            for mark in ("run", "gone"):
                told = self.lacks((f"{mark} (family odd)", "run N", "run B"), "* (next *) *", "* (zero) (yes)", scope=scope)
                self.assertEqual(told, (("shape", "odd", "plain", ()), ZERO, t("F")))

    def test_vectors(self):
        vec = ("gone N", "run (family vec N @0)")
        self.covers((), vec, "- (none)", "- (some - * *)")
        self.covers((), ("gone N", "run (family vec N (S @0))"), "* (some - * *)")
        self.covers((), ("run N", "run (family vec N @0)"), "(zero) (none)", "(next *) (some - * *)")
        self.lacks(("gone N", "run (family vec N @0)"), "- (some - * *)")
        self.covers((), ("gone N", "run (family vec N @0)", "run (family vec N @1)"),
                    "- (none) (none)", "- (some - * *) (some - * *)")

    def test_moves(self):
        tree = self.covers((), ("gone N", "run (family vec N (S @0))"), "* (some - * *)")
        self.assertEqual(tree[2][0], ((("never",),), None))
        self.assertEqual(tree[2][1][1], ("row", 0))

    def test_the_gone_one_of_two_is_solved(self):
        """The run name stays, so that it can still close its branch, or be asked."""
        telescope = ("run N", "gone N", "run (family eq N @1 @0)")
        tree = self.covers((), telescope, "(zero) - (same)", "(next *) - (same)")
        self.assertEqual(tree[0], "ask")
        told = told_by(FAMILIES, table(("gone N", "run N", "run (family eq N @1 @0)"), "* (zero) (same)", "* (next *) (same)"))
        self.assertEqual(told[0], "covers")
        void = ("gone V", "run V", "run (family eq V @1 @0)", "run B")
        tree = self.covers((), void, "- * (same) (yes)")
        self.assertEqual(tree[0], "ask")
        void = ("run V", "gone V", "run (family eq V @1 @0)", "run B")
        self.covers((), void, "* - (same) (yes)")

    def test_lacks_with_plain_terms_of_other_kinds(self):
        lists = ("gone !0", "run (family list @0)")
        self.assertEqual(self.lacks(lists, "* (cons * *)")[1][:3], ("shape", "list", "nil"))
        self.assertEqual(self.lacks(("gone !1", "run N"), "* (zero)"), (t("!0"), number(1)))
        self.assertEqual(self.lacks(("gone !4", "run B"), "* (yes)"), (t("!3"), t("F")))
        self.assertEqual(self.lacks(("run (to gone N B)", "run B"), "* (yes)"), (t("(fun gone N Y)"), t("F")))
        self.assertEqual(self.lacks(("run (family vec B 0)", "run B"), "* (yes)"), (t("(shape vec none B)"), t("F")))

    def test_lacks_with_names_that_hang_on_one_another(self):
        self.assertEqual(self.lacks(("gone N", "run (family vec B (S @0))")), (ZERO, t("(shape vec some B 0 Y (shape vec none B))")))
        self.assertEqual(self.lacks(("run N", "run N", "run (family eq N @0 (S @1))"), "(zero) * *")[:2], (number(1), number(2)))
        self.assertEqual(self.lacks(("gone N", "run (family fin @0)", "run (family fin @1)", "run B"), "* * * (yes)")[3], t("F"))
        self.lacks(("gone !0", "gone N", "run (family vec @1 (S @0))", "run (family vec @2 (S @1))"))
        self.lacks(("run (family box N)", "run (to gone !0 (family list B))"))
        scope = FAMILIES.with_item(read_item("family inf 0\nshape on\ntake run (family inf)\nshape more\ntake run (family inf)"))
        self.unclear(("run (family inf)",), scope=scope)
        self.unclear(("run (to gone !0 @0)",))
        self.unclear(("gone V", "run N"), "* (zero)")

    def test_never_ends_the_moves(self):
        scope = FAMILIES.with_item(read_item("""family pair 0
index (family nat)
index (family nat)
shape mk
take gone (family nat)
end (shape nat zero)
end @0"""))
        tree = self.covers((), ("gone N", "run (family pair 1 @0)"), scope=scope)
        self.assertEqual(tree, ("empty", 1, (), ((("never",),),)))
        tree = self.covers((), ("gone N", "run (family pair @0 1)", "run (family pair 1 @1)"), scope=scope)
        self.assertEqual(tree[0], "empty")
        tree = self.covers((0,), ("gone N", "run (family pair 1 @0)", "run B"), "* (mk *) (yes)", scope=scope)
        self.assertEqual(tree, ("ask", (), (((("never",),), None),)))

    def test_closed_branches(self):
        self.assertEqual(self.covers((), ("run V",)), ("empty", 0, (), ()))
        self.assertEqual(self.covers((), ("run N", "run V")), ("empty", 1, (), ()))
        tree = self.covers((), ("run (family fin 0)",))
        self.assertEqual(tree[:3], ("empty", 0, ()))
        self.assertEqual([moves[-1] for moves in tree[3]], [("never",), ("never",)])
        tree = self.covers((), ("run (family eq N 0 1)",))
        self.assertEqual(tree, ("empty", 0, (), ((("never",),),)))
        tree = self.covers((), ("run (family eq N (call add 1 1) (call add 0 3))",))
        self.assertEqual(tree[3][0][-1], ("never",))
        self.covers((), ("run N", "run (family eq N @0 1)"), "(next (zero)) *")
        tree = self.covers((), ("run (call same !0 V)",))
        self.assertEqual(tree, ("empty", 0, ((),), ()))

    def test_names_are_counted_as_they_came_solved_ones_too(self):
        scope = FAMILIES.with_item(read_item("""family hold 0
shape held
take run (family nat)
take run (family void)
shape free"""))
        tree = self.covers((), ("run N", "run (family hold)"), "(zero) *", "(next *) (free)", scope=scope)
        self.assertEqual(tree, ("ask", (), (((), ("row", 0)), ((), ("ask", (), (((), ("empty", 4, (), ())), ((), ("row", 1))))))))

    def test_a_gone_name_closes_nothing(self):
        self.unclear(("gone V",))
        self.assertEqual(told_by(FAMILIES, table(("gone V", "run N"), "* (zero)")), ("unclear",))
        scope = FAMILIES.with_item(read_item("""family hide 0
shape hidden
take gone (family void)"""))
        self.assertEqual(told_by(scope, table(("run (family hide)", "run B"), "(hidden *) (yes)")), ("unclear",))

    def test_solved_names_close_nothing(self):
        # The run name of an empty family is solved by the other run one, which closes the branch.
        tree = self.covers((), ("run V", "run V", "run (family eq V @1 @0)", "run B"), "* - (same) (yes)")
        self.assertEqual(tree[2][0][1][2][1][1][:2], ("empty", 0))

    def test_a_name_that_another_name_solves_is_asked_as_this(self):
        telescope = ("run N", "run N", "run (family eq N @1 @0)", "run B")
        tree = self.covers((), telescope, "* - (same) (yes)", "* (zero) * (no)", "* (next *) * (no)")
        self.assertEqual(tree[2][0][1][2][1][1], ("ask", (), (((), ("row", 1)), ((), ("row", 2)))))
        telescope = ("gone N", "run N", "run N", "run (family eq N @2 @1)", "run (family eq N @3 @1)", "run B")
        self.covers((), telescope, "* - - (same) (same) (yes)", "- (zero) (zero) (same) * (no)", "* (next *) * * * (no)")

    def test_unclear_at_another_term(self):
        telescope = ("gone N", "run N", "run (family eq N (call add @1 1) @0)", "run B")
        self.unclear(telescope, "* * (same) (yes)", "* (zero) * (no)", "* (next *) * (no)")

    def test_unclear_at_another_term_whatever_rows_follow(self):
        telescope = ("gone N", "run N", "run (family eq N (call add @1 1) @0)", "run B")
        self.unclear(telescope, "* * (same) (yes)", "* (zero) * (no)", "* * * *")
        self.covers((), telescope, "* * (same) (yes)", "* * * (no)")

    def test_unclear_where_the_name_s_kind_is_no_family(self):
        self.unclear(("run (to run N N)",), "(zero)", "*")
        self.unclear(("gone !0", "run @0"), "* (zero)", "* *")
        self.unclear(("run B", "run (call kindby @0)"), "* (zero)", "* *")

    def test_what_comes_of_a_gone_name_is_gone(self):
        scope = FAMILIES
        for text in ("family hold 0\nshape held\ntake run (family void)\nshape free",
                     "family pk 0\nshape pk\ntake run (family hold)",
                     "family wr 0\nindex (family pk)\nshape mk\ntake gone (family hold)\nend (shape pk pk @0)",
                     "family rw 0\nindex (family pk)\nshape mk\ntake run (family hold)\nend (shape pk pk @0)"):
            scope = scope.with_item(read_item(text))
        for family, word in (("wr", "unclear"), ("rw", "covers")):
            telescope = ("run (family pk)", f"run (family {family} @0)", "run B")
            told = told_by(scope, table(telescope, "* (mk *) (yes)", "(pk (free)) * (no)"))
            self.assertEqual(told[0], word)

    def test_unclear_where_an_equation_is_left(self):
        telescope = ("gone N", "run (family vec N (call add @0 0))", "run (family eq N @1 0)")
        self.unclear(telescope, "- (none) (same)")
        # The row itself is let by: what is left is solved behind the later place.
        lot = ("lot", (("f", tele(*telescope), NAT, None,
                        ((rows_of("- (none) (same)")[0][0], t("0")),)),))
        with self.assertRaises(Unclear) as caught:
            judged(FAMILIES, lot)
        self.assertEqual(caught.exception.name, "f")

    def test_an_equation_left_keeps_a_name_from_closing(self):
        told = told_by(FAMILIES, table(("gone N", "run (family eq N (call add @0 0) 1)", "run (family eq N 0 1)")))
        self.assertEqual(told, ("covers", ("empty", 2, (), ((("never",),),)), ()))
        told = told_by(FAMILIES, table(("gone N", "run (family eq N (call add @0 0) 1)")))
        self.assertIn(told[0], ("lacks", "unclear"))

    def test_one_unclear_branch_makes_all_unclear(self):
        telescope = ("run B", "gone N", "run (family vec N (call add @0 0))", "run (family eq N @1 0)")
        self.unclear(telescope, "(no) - (none) (same)")
        self.unclear(telescope, "(yes) - (none) (same)")
        self.unclear(telescope, "(yes) * * *", "(no) - (none) (same)")

    def test_no_row_and_no_argument(self):
        self.assertEqual(told_by(FAMILIES, ("f", (), NAT, None, ())), ("lacks", ()))
        self.assertEqual(told_by(FAMILIES, ("f", (), NAT, None, (((), ZERO),))), ("covers", ("row", 0), ()))
        self.assertEqual(told_by(FAMILIES, ("f", (), NAT, None, (((), ZERO), ((), ZERO)))), ("covers", ("row", 0), (1,)))

    def test_what_the_library_covers(self):
        for key in ORDER:
            if TEXTS[key].startswith("define"):
                for definition in item(key)[1]:
                    self.assertEqual(told_by(SCOPE, definition)[::2], ("covers", ()))

    def test_two_hundred_asks_in_a_branch(self):
        wide = ("family", "wide", (), (), 0, (("leaf", (), ()), ("five", (("run", ("family", "wide", ())),) * 5, ())))
        scope = FAMILIES.with_item(wide)

        def full(levels):
            return shaped("five", *([full(levels - 1)] * 5)) if levels else TAKE

        pattern = shaped("five", full(3), full(3), full(3), full(3), full(2))
        definition = ("f", (("run", ("family", "wide", ())),), NAT, None, (((pattern,), ZERO), ((TAKE,), ZERO)))
        told = covered(scope, definition)
        self.assertEqual((told[0], told[2]), ("covers", ()))
        self.assertEqual(covered(scope, definition[:4] + (definition[4][:1],))[0], "lacks")

    def test_too_long(self):
        long = ("f", tele("run (call same !0 (call same !0 N))"), NAT, None, rows_of("(zero)", "(next *)"))
        with self.assertRaises(TooLong) as caught:
            covered(FAMILIES, long, most=1)
        self.assertEqual(caught.exception.most, 1)
        self.assertEqual(covered(FAMILIES, long, most=2)[0], "covers")

    def test_by_names_and_unchanged(self):
        definition = item("add")[1][0]
        kept = copy.deepcopy(definition)
        self.assertEqual(covered(scope=SCOPE, definition=definition, most=50), covered(whole(), kept))
        self.assertEqual(definition, kept)
        self.assertRaises(TypeError, covered, SCOPE, definition, 5)
        self.assertIs(lacks_holds(scope=SCOPE, definition=definition, thing=(ZERO, ZERO), most=50), False)
        self.assertRaises(TypeError, lacks_holds, SCOPE, definition, (), 5)


def any_pattern(chance, family, levels):
    if levels == 0 or chance.random() < 0.35:
        return TAKE
    name, many = chance.choice({"nat": (("zero", 0), ("next", 1)), "bool": (("yes", 0), ("no", 0))}[family])
    return shaped(name, *[any_pattern(chance, family, levels - 1) for _ in range(many)])


class AllArgumentsTest(unittest.TestCase):
    """What is told of plain families is held against all arguments of few levels."""

    def test_any_rows(self):
        chance = random.Random(7)
        worths = {"nat": [number(many) for many in range(5)], "bool": [t("Y"), t("F")]}
        seen = {}
        for _ in range(500):
            families = [chance.choice(("nat", "bool")) for _ in range(chance.choice((1, 2, 2, 3)))]
            rows = tuple([(tuple([any_pattern(chance, family, 3) for family in families]), ZERO)
                          for _ in range(chance.randrange(1, 7))])
            definition = ("f", tuple([("run", ("family", family, ())) for family in families]), NAT, None, rows)
            told = told_by(FAMILIES, definition)
            taken = [rows_met(FAMILIES, definition, terms)
                     for terms in itertools.product(*[worths[family] for family in families])]
            seen[told[0]] = True
            if told[0] == "covers":
                self.assertEqual({word for word, row, found in taken}, {"takes"})
                self.assertEqual(tuple(sorted(set(range(len(rows))) - {row for word, row, found in taken})), told[2])
            else:
                self.assertEqual(told[0], "lacks")
                self.assertIn("passes", {word for word, row, found in taken})
        self.assertEqual(sorted(seen), ["covers", "lacks"])

    def test_names_that_solve_names(self):
        chance = random.Random(6)
        telescope = tele("run N", "run N", "run N", "run (family eq N @2 @1)", "run (family eq N @2 @1)", "run B")
        arguments = [(number(many),) * 3 + (("shape", "eq", "same", (NAT, number(many))),) * 2 + (t(word),)
                     for many in range(5) for word in "YF"]
        words = {}
        for _ in range(400):
            rows = []
            for _ in range(chance.randrange(1, 7)):
                patterns = [any_pattern(chance, "nat", 2) for _ in range(3)]
                patterns = patterns + [chance.choice((shaped("same"), TAKE)) for _ in range(2)]
                rows.append((tuple(patterns + [any_pattern(chance, "bool", 1)]), ZERO))
            told = told_by(FAMILIES, ("f", telescope, NAT, None, tuple(rows)))
            words[told[0]] = words.get(told[0], 0) + 1
            taken = {word for word, row, found in [rows_met(FAMILIES, ("f", telescope, NAT, None, rows), terms)
                                                   for terms in arguments]}
            if told[0] == "covers":
                self.assertEqual(taken, {"takes"})
            if taken != {"takes"}:
                self.assertEqual(told[0], "lacks")
        self.assertGreater(min(words["covers"], words["lacks"]), 10)

    def test_as_by_the_words_of_the_document_alone(self):
        chance = random.Random(2)
        telescopes = [tele(*pairs) for pairs in (
            ("run N", "run N", "run (family eq N @1 @0)", "run B"), ("gone N", "run N", "run (family eq N @1 @0)", "run B"),
            ("run N", "gone N", "run (family eq N @1 @0)", "run (family vec B @2)"),
            ("gone N", "run (family vec B @0)", "run (family vec B @1)", "run (family fin @2)"),
            ("gone N", "run (family fin (S @0))", "run (family vec B @1)"),
            ("gone N", "run (family vec B (call add @0 1))", "run (family eq N @1 1)"),
            ("run B", "run (call kindby @0)", "run (family eq N 0 0)"),
            ("run N", "gone N", "run (family eq N (call add @1 1) @0)", "run (family fin @1)"),
            ("gone !0", "gone @0", "gone @1", "run (family eq @2 @1 @0)", "run (family eq @3 @2 @1)"),
            ("run N", "run (family vec N @0)", "run (family vec N @1)"))]
        words = {}
        for _ in range(700):
            telescope = chance.choice(telescopes)
            rows = tuple([(tuple([self.any_place(chance, mark, kind) for mark, kind in telescope]), ZERO)
                          for _ in range(chance.randrange(1, 6))])
            told = told_by(FAMILIES, ("f", telescope, NAT, None, rows))
            plain = plain_cover(FAMILIES, ("f", telescope, NAT, None, rows))
            words[told[0]] = words.get(told[0], 0) + 1
            if told[0] == "unclear":
                self.assertIn(plain[0], ("unclear", "lacks"))
            else:
                self.assertEqual(told[::2] if told[0] == "covers" else told[:1], plain)
        self.assertGreater(min(words.values()), 30)

    def any_place(self, chance, mark, kind):
        return self.any_of(chance, kind[1] if kind[0] == "family" and mark == "run" else None, 2)

    def any_of(self, chance, family, levels):
        """A pattern of this family, of shapes with inner ones of theirs; None is of none."""
        shapes = {"nat": (("zero",), ("next", "nat")), "bool": (("yes",), ("no",)), "eq": (("same",),),
                  "vec": (("none",), ("some", None, "bool", "vec")), "fin": (("first", None), ("further", None, "fin"))}
        if family is None or levels == 0 or chance.random() < 0.4:
            return chance.choice((TAKE, DUE))
        name, *inner = chance.choice(shapes[family])
        return shaped(name, *[self.any_of(chance, one, levels - 1) for one in inner])

    def test_vectors_and_indexes(self):
        """Rows over lengths and vectors: what is told to cover takes all of few levels."""
        chance = random.Random(8)
        vecs = {0: [t("(shape vec none B)")]}
        for many in (1, 2, 3):
            vecs[many] = [("shape", "vec", "some", (t("B"), number(many - 1), one, rest))
                          for one in (t("Y"), t("F")) for rest in vecs[many - 1]]
        telescope = tele("run N", "run (family vec B @0)", "run (family vec B @1)")

        def vec_pattern(levels):
            if levels == 0 or chance.random() < 0.3:
                return TAKE
            return chance.choice((shaped("none"), shaped("some", DUE, any_pattern(chance, "bool", 1), vec_pattern(levels - 1))))

        words = {}
        for _ in range(250):
            rows = tuple([((any_pattern(chance, "nat", 3), vec_pattern(2), vec_pattern(2)), ZERO)
                          for _ in range(chance.randrange(1, 6))])
            definition = ("f", telescope, NAT, None, rows)
            told = told_by(FAMILIES, definition)
            words[told[0]] = words.get(told[0], 0) + 1
            if told[0] == "covers":
                taken = [rows_met(FAMILIES, definition, (number(many), one, other))
                         for many in vecs for one in vecs[many] for other in vecs[many]]
                self.assertEqual({word for word, row, found in taken}, {"takes"})
                self.assertFalse(set(told[2]) & {row for word, row, found in taken})
        self.assertGreater(words.get("covers", 0), 3)
        self.assertGreater(words.get("lacks", 0), 3)


class LacksHoldsTest(unittest.TestCase):
    def holds(self, wanted, definition, thing, scope=FAMILIES, **more):
        self.assertIs(lacks_holds(scope, definition, thing, **more), wanted)

    def test_plain(self):
        definition = table(("run N",), "(zero)")
        self.holds(True, definition, (number(1),))
        self.holds(False, definition, (number(0),))
        self.holds(True, definition, (t("(call add 1 0)"),))
        self.holds(False, definition, (t("(call add 0 0)"),))
        for thing in ((), (number(1), number(1)), number(1), [number(1)], None, (t("Y"),), (("at", 0),), (t("!0"),),
                      (t("(S @0)"),), (t("(S ?a)"),), (t("?a"),), (t("(call absent)"),), (None,), ((number(1),),),
                      (next_of("x"),), (t("(give run 0 0)"),)):
            self.holds(False, definition, thing)

    def test_gone_ones_as_they_stand_in_manner_gone(self):
        definition = table(("gone N", "run (family vec N @0)"), "- (none)")
        some = t("(shape vec some N 0 4 (shape vec none N))")
        self.holds(True, definition, (number(1), some))
        self.holds(True, definition, (t("(call add 1 0)"), some))
        self.holds(False, definition, (number(2), some))
        self.holds(False, definition, (number(0), t("(shape vec none N)")))
        gone = t("(give gone (fun gone N @0) 3)")
        self.holds(True, table(("gone N",)), (gone,))
        self.holds(False, table(("run N",)), (gone,))
        # What waits isn't taken.
        waits = ("f", tele("gone N"), NAT, None, (((shaped("zero"),), ZERO),))
        self.holds(True, waits, (t("(call add 0 0)"),))
        self.holds(False, waits, (ZERO,))

    def test_those_ahead_put_in(self):
        definition = table(("run B", "run (call kindby @0)"), "(yes) (zero)")
        self.holds(True, definition, (t("Y"), number(1)))
        self.holds(True, definition, (t("F"), t("Y")))
        self.holds(False, definition, (t("F"), number(1)))
        self.holds(False, definition, (t("Y"), number(0)))

    def test_runs_too_long_too_great_or_none(self):
        definition = table(("run N",), "(zero)")
        self.holds(True, definition, (t("(call add 4 0)"),), most=5)
        self.holds(False, definition, (t("(call add 4 0)"),), most=4)
        self.holds(False, definition, (("give", "run", t("(fun run N (S @0))"), number(40)),))
        self.holds(True, definition, (("give", "run", t("(fun run N (S @0))"), number(39)),))
        waiting = ("lot", (("waits", (), NAT, None, ()),))
        self.holds(False, definition, (t("(call waits)"),), FAMILIES.with_item(waiting))
        scope = FAMILIES.with_item(("open", "wish", (), NAT))
        self.holds(False, definition, (t("(call wish)"),), scope)
        calling = scope.with_item(("lot", (("calls", (), NAT, None, (((), t("(call wish)")),)),)))
        self.holds(False, definition, (t("(call calls)"),), calling)
        self.holds(False, table(("run (to run N N)",)), (t("(fun run N (call calls))"),), calling)

    def test_of_anything(self):
        for definition in (table(("run N",), "(zero)"), table(("gone !0", "run @0")), item("add")[1][0]):
            for thing in ODD_THINGS:
                self.holds(False, definition, thing)
                self.holds(False, definition, (thing,) * len(definition[1]))
        self.holds(True, ("f", (), NAT, None, ()), ())
        self.holds(False, ("f", (), NAT, None, (((), ZERO),)), ())
        self.holds(False, ("f", (), NAT, None, ()), [])

    def test_what_holds_fits(self):
        told = covered(FAMILIES, table(("run N", "run B"), "(next *) *", "(zero) (yes)"))
        for term, kind in zip(told[1], (NAT, t("B"))):
            self.assertIsNone(fit(FAMILIES, term, kind))

    def test_thing_unchanged(self):
        thing = [[number(1)], {"a": ()}]
        kept = copy.deepcopy(thing)
        self.holds(False, table(("run N", "run N")), thing)
        self.assertEqual(thing, kept)


if __name__ == "__main__":
    unittest.main()
