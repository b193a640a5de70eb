import copy
import random
import unittest

from kindsbyworth.errors import TooGreat, TooLong, TooMuch
from kindsbyworth.itemtexts import read_item
from kindsbyworth.reckoning import are_alike, head_way, outcome_way
from kindsbyworth.scopes import Scope
from kindsbyworth.steps import step_at, walked
from kindsbyworth.terms import measures, size_of, spots_of, with_part
from tests.library import t, whole
from tests.samples import TERMS, ZERO, next_of, number

SCOPE = whole()
ENDLESS = t("(give run (fun run N (give run @0 @0)) (fun run N (give run @0 @0)))")
# Words that stand in terms at will; kinds aren't asked when terms are reckoned.
WORDS = ("add", "twice", "even", "odd", "pred", "kindby", "append", "absent")


def least(scope, term):
    """The least spot at which a step goes, and what it makes, by going through them all."""
    for spot in sorted(spots_of(term)):
        made = step_at(scope, term, spot)
        if made is not None:
            return spot, made
    return None


def plain_way(scope, term, stands=lambda scope, term: False):
    """The way by the words of the document alone, and what it leads to."""
    way = []
    while not stands(scope, term):
        found = least(scope, term)
        if found is None:
            break
        way.append(found[0])
        term = found[1]
    return tuple(way), term


def plainly_stands(scope, term):
    if term[0] == "give":
        function = term[2]
        return plainly_stands(scope, function) and not (function[0] == "fun" and function[1] == term[1])
    if term[0] != "call":
        return True
    if step_at(scope, term, ()) is not None:
        return False
    waiting = waits_at(scope, term)
    return waiting is None or plainly_stands(scope, waiting)


def waits_at(scope, term):
    """The term at which a call that goes no step waits, None where it waits at none."""
    if term[1] not in [name for name in WORDS if name != "absent"]:
        return None
    definition = [one for one in scope.item_of(term[1])[1] if one[0] == term[1]][0]
    if len(definition[1]) != len(term[2]):
        return None
    for patterns, _ in definition[4]:
        left = list(zip(patterns, term[2]))
        while left:
            pattern, part = left.pop(0)
            if pattern[0] != "shape":
                continue
            within = None
            if part[0] == "shape":
                within = plain_shape(scope, part)
            if within is None:
                return part
            if part[2] != pattern[1]:
                break
            left = list(zip(pattern[2], within)) + left
    return None


def plain_shape(scope, part):
    family = scope.item_of(part[1])
    for name, arguments, _ in family[5]:
        if name == part[2] and len(part[3]) == len(family[2]) + len(arguments):
            return part[3][len(family[2]):]
    return None


def any_term(chance, levels):
    """Some term of so many levels at most."""
    if levels == 0 or chance.random() < 0.15:
        return chance.choice([ZERO, ("at", 0), ("at", 1), ("family", "nat", ()), t("Y"), t("F"), ("world", 0)])
    word = chance.choice(("next", "next", "call", "call", "give", "fun", "to", "some", "give"))
    inner = [any_term(chance, levels - 1) for _ in range(5)]
    mark = chance.choice(("run", "gone"))
    if word == "next":
        return next_of(inner[0])
    if word == "some":
        return ("shape", "vec", "some", tuple(inner[:4]))
    if word == "call":
        name = chance.choice(WORDS)
        many = {"add": 2, "append": 5}.get(name, 1)
        return ("call", name, tuple(inner[:many]))
    if word == "give" and chance.random() < 0.6:
        return ("give", mark, ("fun", mark, inner[0], inner[1]), inner[2])
    return (word, mark, inner[0], inner[1])


def reckonable(scope, many, levels):
    """So many terms whose plain way ends within bounds, with this way."""
    chance = random.Random(9)
    found = []
    while len(found) < many:
        term = any_term(chance, levels)
        if size_of(term) > 60:
            continue
        try:
            found.append((term, plain_way(scope, term)))
        except TooGreat:
            pass
    return found


class OutcomeTest(unittest.TestCase):
    def test_the_least_spot_always(self):
        for term, (way, outcome) in reckonable(SCOPE, 250, 4):
            self.assertEqual(outcome_way(SCOPE, term), (way, outcome))
            self.assertEqual(walked(SCOPE, term, way), outcome)

    def test_one_outcome_in_any_order(self):
        chance = random.Random(4)
        for term, (way, outcome) in reckonable(SCOPE, 60, 4):
            here = term
            for _ in range(60):
                made = [one for one in [step_at(SCOPE, here, spot) for spot in spots_of(here)] if one is not None]
                here = chance.choice(made) if made else here
            self.assertEqual(outcome_way(SCOPE, here)[1], outcome)

    def test_no_step(self):
        for term in TERMS:
            if least(SCOPE, term) is None:
                self.assertEqual(outcome_way(SCOPE, term), ((), term))
                self.assertEqual(head_way(SCOPE, term), ((), term))

    def test_ordinary(self):
        self.assertEqual(outcome_way(SCOPE, t("(call add 2 1)")), (((), (0,), (0, 0)), number(3)))
        self.assertEqual(outcome_way(SCOPE, t("(call add (call add 0 1) (call add 0 0))")),
                         (((0,), (), (0,), (0,)), number(1)))
        self.assertEqual(outcome_way(SCOPE, t("(fun run (call kindby Y) (call add 1 @0))")),
                         (((0,), (1,), (1, 0)), t("(fun run N (S @0))")))
        self.assertEqual(outcome_way(SCOPE, t("(give gone (fun gone !0 @0) N)")), (((),), t("N")))

    def test_too_long(self):
        term = t("(call add 5 0)")
        self.assertEqual(len(outcome_way(SCOPE, term)[0]), 6)
        self.assertEqual(outcome_way(SCOPE, term, most=6)[1], number(5))
        for most in range(1, 6):
            with self.assertRaises(TooLong) as caught:
                outcome_way(SCOPE, term, most=most)
            self.assertEqual(caught.exception.most, most)
            self.assertIsInstance(caught.exception, TooMuch)
        with self.assertRaises(TooLong) as caught:
            outcome_way(SCOPE, ENDLESS)
        self.assertEqual(caught.exception.most, 2000)
        with self.assertRaises(TooLong) as caught:
            head_way(SCOPE, ENDLESS)
        self.assertEqual(caught.exception.most, 2000)

    def test_too_great(self):
        wide = ("call", "absent", (number(18),) * 10)
        self.assertEqual(size_of(wide), 191)
        double = ("fun", "run", t("N"), ("call", "absent", (("at", 0), ("at", 0))))
        with self.assertRaises(TooGreat) as caught:
            outcome_way(SCOPE, ("give", "run", double, ("call", "absent", (wide, number(7)))))
        self.assertEqual(caught.exception.size, 2 * (191 + 8 + 1) + 1)
        fitting = ("give", "run", double, ("call", "absent", (wide, number(6))))
        self.assertEqual(size_of(outcome_way(SCOPE, fitting)[1]), 399)
        exact = ("call", "absent", (ZERO, fitting))
        with self.assertRaises(TooGreat) as caught:
            outcome_way(SCOPE, exact)
        self.assertEqual(caught.exception.size, 401)
        self.assertEqual(size_of(outcome_way(SCOPE, next_of(fitting))[1]), 400)

    def test_too_deep(self):
        def put(many):
            return ("give", "run", ("fun", "run", t("N"), next_of(("at", 0))), number(many))

        self.assertEqual(outcome_way(SCOPE, put(39)), (((),), number(40)))
        with self.assertRaises(TooGreat) as caught:
            outcome_way(SCOPE, put(40))
        self.assertEqual(caught.exception.size, 42)
        # A step elsewhere makes a term that is still too deep.
        deep = ("call", "absent", (number(40), t("(call add 0 0)")))
        with self.assertRaises(TooGreat) as caught:
            outcome_way(SCOPE, deep)
        self.assertEqual(caught.exception.size, 43)
        dropped = ("give", "gone", ("fun", "gone", t("N"), t("(call add 1 0)")), number(60))
        self.assertEqual(outcome_way(SCOPE, dropped)[1], number(1))
        self.assertEqual(head_way(SCOPE, dropped), (((), ()), t("(S (call add 0 0))")))

    def test_what_was_told_however_great(self):
        deep = number(3000)
        self.assertEqual(outcome_way(SCOPE, deep)[0], ())
        self.assertEqual(head_way(SCOPE, deep)[0], ())
        self.assertIs(are_alike(SCOPE, deep, number(3000)), True)
        self.assertIs(are_alike(SCOPE, deep, number(2999)), False)
        with self.assertRaises(TooGreat) as caught:
            outcome_way(SCOPE, with_part(number(1000), (0,) * 1000, t("(call add 0 0)")))
        self.assertEqual(caught.exception.size, 1001)
        self.assertEqual(head_way(SCOPE, ("call", "pred", (number(30),))), (((),), number(29)))
        self.assertEqual(measures(number(30)), (31, 30))

    def test_too_long_goes_ahead_of_too_great(self):
        grows = t("(give run (fun run N (give run @0 (give run @0 @0))) (fun run N (give run @0 (give run @0 @0))))")
        with self.assertRaises(TooGreat) as caught:
            outcome_way(SCOPE, grows)
        size = caught.exception.size
        steps = 0
        term = grows
        while True:
            steps = steps + 1
            try:
                term = least(SCOPE, term)[1]
            except TooGreat as refused:
                self.assertEqual(refused.size, size)
                break
        with self.assertRaises(TooGreat):
            outcome_way(SCOPE, grows, most=steps)
        with self.assertRaises(TooLong) as caught:
            outcome_way(SCOPE, grows, most=steps - 1)
        self.assertEqual(caught.exception.most, steps - 1)
        with self.assertRaises(TooLong):
            head_way(SCOPE, grows, most=steps - 1)

    def test_by_names_and_unchanged(self):
        self.assertEqual(outcome_way(scope=SCOPE, term=t("(call add 0 1)"), most=1), (((),), number(1)))
        self.assertEqual(head_way(scope=SCOPE, term=t("(call add 0 1)"), most=1), (((),), number(1)))
        self.assertIs(are_alike(scope=SCOPE, one=t("(call add 0 1)"), other=number(1), most=1), True)
        self.assertRaises(TypeError, outcome_way, SCOPE, ZERO, 5)
        self.assertRaises(TypeError, head_way, SCOPE, ZERO, 5)
        self.assertRaises(TypeError, are_alike, SCOPE, ZERO, ZERO, 5)
        again = whole()
        self.assertEqual(SCOPE, again)
        term = t("(call add 3 (call twice 2))")
        kept = copy.deepcopy(term)
        self.assertEqual(outcome_way(SCOPE, term), outcome_way(again, kept))
        self.assertEqual(term, kept)


class HeadTest(unittest.TestCase):
    def head(self, text, way, told):
        self.assertEqual(head_way(SCOPE, t(text)), (way, t(told)))

    def test_on_the_way_of_the_outcome(self):
        for term, (way, outcome) in reckonable(SCOPE, 250, 4):
            self.assertEqual(head_way(SCOPE, term), plain_way(SCOPE, term, plainly_stands))
            found = head_way(SCOPE, term)
            self.assertEqual(found[0], way[:len(found[0])])

    def test_what_stands(self):
        for text in ("(S (call add 0 0))", "N", "@3", "!2", "(fun run (call kindby Y) @0)", "(to run N (call kindby Y))",
                     "(call add @0 (call add 0 0))", "(call absent (call add 0 0))", "(call add 0)", "(call never Y)",
                     "(give run @0 (call add 0 0))", "(give run (fun gone N (call add 0 0)) 0)", "(give run N 0)",
                     "(give gone (give run @0 (call add 0 0)) 0)", "(call add (give run @0 0) 1)",
                     "(call pred (call add @0 1))", "(call add (shape nat next) (call add 0 0))", "?a",
                     "(call add (shape absent next 0) (call add 0 0))"):
            self.head(text, (), text)

    def test_what_does_not_stand(self):
        self.head("(call add 1 0)", ((),), "(S (call add 0 0))")
        self.head("(give run (fun run N (S @0)) (call add 0 0))", ((),), "(S (call add 0 0))")
        self.head("(give run (give run (fun run N @0) (fun run N (call add 0 @0))) 1)", ((0,), (), ()), "1")
        self.head("(call add (call add 1 0) 0)", ((0,), ()), "(S (call add (call add 0 0) 0))")
        self.head("(call pred (call pred (call add 2 0)))", ((0, 0), (0,), (0,), (), ()), "0")

    def test_the_way_is_the_outcome_s_even_where_the_head_needs_less(self):
        scope = Scope(SCOPE.all_items + (read_item("""define second 1
take run (family nat)
take run (family nat)
result (family nat)
row * (zero)
body (shape nat zero)
row * (next *)
body @1"""),))
        term = t("(call second (call add 0 (call add 0 0)) (call add 0 1))")
        self.assertEqual(head_way(scope, term)[0], ((0,), (0,), (1,), ()))

    def test_a_call_that_waits_within_a_shape(self):
        scope = Scope(SCOPE.all_items + (read_item("""define deep 0
take run (family nat)
result (family nat)
row (next (next *))
body @0
row (next (zero))
body (shape nat zero)
row (zero)
body (shape nat zero)"""),))
        self.assertEqual(head_way(scope, t("(call deep (S (call add 1 0)))")), (((0, 0), (), ()), number(0)))
        self.assertEqual(head_way(scope, t("(call deep (S (call add @0 0)))")), ((), t("(call deep (S (call add @0 0)))")))


class AlikeTest(unittest.TestCase):
    def test_the_same(self):
        self.assertIs(are_alike(SCOPE, ENDLESS, ENDLESS), True)
        self.assertIs(are_alike(SCOPE, ENDLESS, copy.deepcopy(ENDLESS), most=1), True)
        for term in TERMS:
            self.assertIs(are_alike(SCOPE, term, term), True)

    def test_one_outcome(self):
        for one, other in (("(call add 1 1)", "2"), ("2", "(call add 1 1)"), ("(call add 1 1)", "(call twice 1)"),
                           ("(call kindby Y)", "N"), ("(fun run N (call add 1 @0))", "(fun run N (S @0))"),
                           ("(call add 1 @4)", "(call add 0 (S @4))")):
            self.assertIs(are_alike(SCOPE, t(one), t(other)), True)

    def test_other_outcomes(self):
        for one, other in (("(call add 1 1)", "1"), ("N", "B"), ("@0", "@1"), ("!0", "!1"), ("(call add @0 0)", "@0"),
                           ("(fun run N @0)", "(fun gone N @0)"), ("(to run N N)", "(fun run N N)"),
                           ("(fun run N @0)", "(fun run B @0)"), ("(call add @0 1)", "(call add 1 @0)"),
                           ("(fun run N (give run @1 @0))", "@0")):
            self.assertIs(are_alike(SCOPE, t(one), t(other)), False)

    def test_each_in_a_reckoning_by_itself(self):
        self.assertIs(are_alike(SCOPE, t("(call add 4 0)"), t("(call add 4 0)"), most=1), True)
        self.assertIs(are_alike(SCOPE, t("(call add 4 0)"), t("(call add 4 (call add 0 0))"), most=6), True)
        with self.assertRaises(TooLong) as caught:
            are_alike(SCOPE, t("(call add 4 0)"), t("(call add 4 (call add 0 0))"), most=5)
        self.assertEqual(caught.exception.most, 5)
        for one, other in ((ENDLESS, ZERO), (ZERO, ENDLESS)):
            with self.assertRaises(TooLong):
                are_alike(SCOPE, one, other)

    def test_too_great(self):
        deep = ("give", "run", ("fun", "run", t("N"), next_of(("at", 0))), number(40))
        for one, other in ((deep, ZERO), (ZERO, deep)):
            with self.assertRaises(TooGreat) as caught:
                are_alike(SCOPE, one, other)
            self.assertEqual(caught.exception.size, 42)


if __name__ == "__main__":
    unittest.main()
