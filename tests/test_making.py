import copy
import random
import unittest

from kindsbyworth.bare import bare_run
from kindsbyworth.erasing import erased, erased_scope
from kindsbyworth.errors import TongueError, TooGreat, TooLong
from kindsbyworth.kinds import kind_of
from kindsbyworth.machine import run_made
from kindsbyworth.making import made
from kindsbyworth.running import run_of
from kindsbyworth.terms import part_at, spots_of, with_part
from tests.library import t, whole
from tests.test_bare import ID, PROGRAM, call, give, same
from tests.test_erasing import DULL, PASS, TAKE, ZERO, at, bare, shape
from tests.test_kinds import JUDGED

SCOPE = whole()
ENOUGH = 10 ** 9


def parts_of(term):
    return term[2] if term[0] in ("shape", "call") else term[1:] if term[0] in ("fun", "wait", "go", "give") else ()


def spots(term):
    """How many spots a bare term has."""
    many, left = 0, [term]
    while left:
        here = left.pop()
        many = many + 1
        left.extend(parts_of(here))
    return many


def patterns_in(patterns):
    return sum(1 + (patterns_in(one[2]) if one[0] == "shape" else 0) for one in patterns)


class PlainRun:
    """A bare run by the words of the document, with how many rows a made program may take for it at most."""

    def __init__(self, program):
        self.program = {definition[0]: definition[2] for definition in program}
        self.rows = 100

    def run(self, term, around):
        word = term[0]
        if word == "at":
            return around[len(around) - 1 - term[1]]
        if word in ("fun", "wait"):
            return (word, term[1], around)
        if word == "dull":
            return term
        worths = [self.run(part, around) for part in parts_of(term)]
        if word == "shape":
            return ("shape", term[1], tuple(worths))
        if word == "call":
            return self.called(term[1], worths)
        return self.put(worths[0][1], worths[0][2] + tuple(worths[1:]))

    def put(self, body, around):
        self.rows = self.rows + 100 * spots(body)
        return self.run(body, around)

    def called(self, name, worths):
        for patterns, _ in self.program[name]:
            self.rows = self.rows + 100 * patterns_in(patterns)
        for patterns, body in self.program[name]:
            taken = []
            if all([self.takes(pattern, worth, taken) for pattern, worth in zip(patterns, worths)]):
                return self.put(body, tuple(taken))
        raise AssertionError("no row takes")

    def takes(self, pattern, worth, taken):
        if pattern[0] == "take":
            taken.append(worth)
        if pattern[0] != "shape":
            return True
        return worth[0] == "shape" and worth[1] == pattern[1] and all(
            [self.takes(inner, part, taken) for inner, part in zip(pattern[2], worth[2])])


def rows_allowed(program, term):
    plain = PlainRun(program)
    plain.rows = plain.rows + 100 * spots(term)
    plain.run(term, ())
    return plain.rows


class PlainMachine:
    """The machine by the words of the document alone; told is (what it tells, how many rows were gone)."""

    def __init__(self, blocks):
        self.blocks = {block[0]: block for block in blocks}
        assert len(self.blocks) == len(blocks)
        self.rows = 0

    def run(self):
        frames = [[".", 0, (), []]]
        while True:
            block, line, worths, stack = frames[-1]
            row = self.blocks[block][2][line]
            self.rows = self.rows + 1
            frames[-1][1] = line + 1
            word = row[0]
            if word == "local":
                stack.append(worths[row[1]])
            elif word in ("shape", "close", "call"):
                taken = tuple(stack[len(stack) - row[2]:])
                assert len(taken) == row[2]
                del stack[len(stack) - row[2]:]
                if word == "call":
                    assert self.blocks[row[1]][1] == len(taken)
                    frames.append([row[1], 0, taken, []])
                else:
                    stack.append((word, row[1], taken))
            elif word == "dull":
                stack.append(DULL)
            elif word == "give":
                given = stack.pop()
                closure = stack.pop()
                frames.append([closure[1], 0, closure[2] + (given,), []])
            elif word == "go":
                closure = stack.pop()
                frames.append([closure[1], 0, closure[2], []])
            elif word == "ask":
                here = worths[row[1]]
                lines = dict(row[2])
                if here[0] == "shape" and here[1] in lines:
                    frames[-1][1:3] = [lines[here[1]], worths + here[2]]
                else:
                    frames[-1][1] = row[3]
            else:
                assert row == ("tell",)
                told = stack.pop()
                frames.pop()
                if not frames:
                    return told
                frames[-1][3].append(told)


ROWS = {"local": (int,), "shape": (str, int), "call": (str, int), "dull": (), "close": (str, int), "give": (), "go": (),
        "ask": (int, tuple, int), "tell": ()}


class MadeTest(unittest.TestCase):
    def well_formed(self, blocks, program):
        self.assertIsInstance(blocks, tuple)
        manys = {name: many for name, many, rows in program}
        for name, many, code in blocks:
            self.assertIsInstance(code, tuple)
            self.assertTrue(name in manys or name.startswith("."))
            self.assertEqual(many, manys.get(name, 0 if name == "." else many))
            if name not in manys and name != ".":
                self.assertTrue(name[1:].isdigit())
            for row in code:
                self.assertEqual(tuple(type(one) for one in row[1:]), ROWS[row[0]])
                if row[0] == "ask":
                    for line in [row[3]] + [told for _, told in row[2]]:
                        self.assertTrue(0 <= line < len(code))
        self.assertEqual([name for name, _, _ in blocks].count("."), 1)
        for name in manys:
            self.assertIn(name, [block[0] for block in blocks])

    def told(self, term, worth, program=PROGRAM):
        kept = copy.deepcopy((program, term))
        blocks = made(program, term)
        self.well_formed(blocks, program)
        self.assertEqual(run_made(blocks, most=ENOUGH), worth)
        plain = PlainMachine(blocks)
        self.assertEqual(plain.run(), worth)
        self.assertLessEqual(plain.rows, rows_allowed(program, term))
        self.assertEqual(run_made(blocks, most=plain.rows), worth)
        if plain.rows > 1:
            with self.assertRaises(TooLong) as caught:
                run_made(blocks, most=plain.rows - 1)
            self.assertEqual(caught.exception.most, plain.rows - 1)
        self.assertEqual((program, term), kept)
        self.assertEqual(made(program, term), blocks)

    def test_worths(self):
        for term in (DULL, ZERO, bare(7), shape("pair", bare(1), shape("pair", DULL, bare(2)))):
            self.told(term, term)
            self.told(term, term, ())

    def test_gives_and_gos(self):
        self.told(give(ID, bare(1)), bare(1))
        self.told(("go", ("wait", bare(1))), bare(1))
        self.told(give(give(("fun", ("fun", shape("pair", at(0), at(1)))), bare(1)), bare(2)), shape("pair", bare(2), bare(1)))
        self.told(("go", give(("fun", ("wait", shape("next", at(0)))), bare(1))), bare(2))
        self.told(give(give(ID, ID), bare(1)), bare(1))
        deep = ("fun", ("wait", ("fun", shape("three", at(0), at(1), at(1)))))
        self.told(give(("go", give(deep, bare(1))), bare(2)), shape("three", bare(2), bare(1), bare(1)))
        self.told(give(("fun", give(("fun", give(("fun", shape("two", at(0), at(2))), at(1))), at(0))), bare(3)),
                  shape("two", bare(3), bare(3)))

    def test_closures_keep_what_is_around_them(self):
        adds = ("fun", ("fun", call("add", at(1), at(0))))
        self.told(give(("fun", shape("pair", give(at(0), bare(1)), give(at(0), bare(2)))), give(adds, bare(3))),
                  shape("pair", bare(4), bare(5)))
        # Names that aren't used are passed over.
        self.told(give(give(give(("fun", ("fun", ("fun", at(1)))), bare(1)), bare(2)), bare(3)), bare(2))
        self.told(give(("fun", ("go", ("wait", ("go", ("wait", at(0)))))), bare(3)), bare(3))

    def test_calls(self):
        self.told(call("add", bare(2), bare(3)), bare(5))
        self.told(call("even", bare(5)), shape("no"))
        self.told(call("append", shape("some", bare(1), shape("none")), shape("some", DULL, shape("none"))),
                  shape("some", bare(1), shape("some", DULL, shape("none"))))
        self.told(call("head", shape("some", bare(1), shape("none"))), bare(1))
        self.told(call("twice", call("add", bare(1), bare(1))), bare(4))

    def test_rows(self):
        program = (("f", 3, (
            ((shape("a", TAKE, shape("b")), TAKE, shape("b")), shape("first", at(0), at(1))),
            ((PASS, shape("a", TAKE, TAKE), shape("b")), shape("second", at(1), at(0))),
            ((shape("a", shape("a", TAKE, PASS), TAKE), TAKE, PASS), shape("third", at(2), at(1), at(0))),
            ((TAKE, PASS, shape("a", PASS, TAKE)), shape("fourth", at(1), at(0))),
            ((TAKE, TAKE, PASS), shape("last", at(1), at(0))))),)
        a, b = shape("a", shape("c"), shape("b")), shape("b")
        aa = shape("a", a, shape("d"))
        for worths, worth in (((a, b, b), shape("first", b, shape("c"))), ((a, a, b), shape("first", a, shape("c"))),
                              ((b, a, b), shape("second", shape("c"), b)), ((aa, a, b), shape("second", shape("c"), b)),
                              ((aa, b, b), shape("third", shape("c"), shape("d"), b)),
                              ((b, b, aa), shape("fourth", b, shape("d"))), ((b, b, b), shape("last", b, b))):
            self.assertEqual(bare_run(program, call("f", *worths)), (worth, 1))
            self.told(call("f", *worths), worth, program)

    def test_definitions_without_arguments_or_rows(self):
        program = (("base.1.one", 0, (((), bare(1)),)), ("empty", 1, ()), ("two", 0, (((), shape("next", call("base.1.one"))),)))
        self.told(call("two"), bare(2), program)
        self.told(give(("fun", bare(1)), ("fun", call("empty", at(0)))), bare(1), program)

    def test_calls_of_names_that_the_program_has_not(self):
        self.told(give(("fun", bare(1)), ("wait", call("absent", ZERO))), bare(1))
        program = (("f", 1, (((shape("zero"),), bare(1)), ((TAKE,), call("absent", at(0))))),)
        self.told(call("f", ZERO), bare(1), program)

    def test_judged_terms(self):
        for text in JUDGED:
            term = erased(SCOPE, t(text))
            worth, _ = bare_run(PROGRAM, term)
            if "fun" not in str(worth) and "wait" not in str(worth):
                self.told(term, worth)
            else:
                self.well_formed(made(PROGRAM, term), PROGRAM)

    def test_terms_put_together(self):
        chance = random.Random(18)
        terms = [t(text) for text in JUDGED]
        some = 0
        while some < 200:
            one = chance.choice(terms)
            term = with_part(one, chance.choice(spots_of(one)), chance.choice(terms + [part_at(one, chance.choice(spots_of(one)))]))
            try:
                kind_of(SCOPE, term)
                run_of(SCOPE, term)
            except TongueError:
                continue
            term = erased(SCOPE, term)
            worth, _ = bare_run(PROGRAM, term)
            if "fun" not in str(worth) and "wait" not in str(worth):
                some = some + 1
                self.told(term, worth)

    def test_deep(self):
        for many in (2000, 5000):
            deep = bare(many)
            blocks = made((), deep)
            self.assertTrue(same(run_made(blocks, most=2 * many), deep))
            blocks = made(PROGRAM, call("add", bare(1500), deep))
            self.assertTrue(same(run_made(blocks, most=ENOUGH), bare(1500 + many)))
        funs = ZERO
        for level in range(1500):
            funs = ("fun", funs) if level % 7 else ("fun", ("go", ("wait", funs)))
        for _ in range(1500):
            funs = give(funs, ZERO)
        self.assertEqual(run_made(made((), funs), most=ENOUGH), ZERO)

    def test_by_names(self):
        blocks = made(program=PROGRAM, term=ZERO)
        self.assertEqual(run_made(blocks=blocks, most=2), ZERO)
        self.assertRaises(TypeError, run_made, blocks, 5)


class MachineTest(unittest.TestCase):
    """Code as any maker may write it."""

    def test_rows_one_by_one(self):
        blocks = (
            (".", 0, (("shape", "a", 0), ("shape", "b", 0), ("call", "f", 2), ("tell",))),
            ("f", 2, (("local", 1), ("local", 0), ("shape", "pair", 2), ("tell",))))
        self.assertEqual(run_made(blocks, most=8), shape("pair", shape("b"), shape("a")))
        self.assertRaises(TooLong, run_made, blocks, most=7)
        blocks = (
            (".", 0, (("shape", "a", 0), ("shape", "b", 0), ("close", ".1", 2), ("dull",), ("give",), ("tell",))),
            (".1", 3, (("local", 2), ("local", 1), ("local", 0), ("shape", "all", 3), ("tell",))))
        self.assertEqual(run_made(blocks), shape("all", DULL, shape("b"), shape("a")))
        blocks = (
            (".", 0, (("shape", "a", 0), ("close", ".1", 1), ("go",), ("tell",))), (".1", 1, (("local", 0), ("tell",))))
        self.assertEqual(run_made(blocks), shape("a"))

    def test_told_is_the_top_of_the_stack_alone(self):
        blocks = ((".", 0, (("dull",), ("shape", "a", 0), ("tell",))),)
        self.assertEqual(run_made(blocks, most=3), shape("a"))

    def test_ask(self):
        code = (("ask", 0, (("zero", 3), ("next", 5)), 1), ("dull",), ("tell",), ("shape", "none", 0), ("tell",), ("local", 1), ("tell",))
        for term, worth in ((bare(0), shape("none")), (bare(3), bare(2)), (shape("other", bare(1)), DULL), (DULL, DULL)):
            blocks = made((), term)
            ahead = [row for name, _, rows in blocks for row in rows if name == "."][:-1]
            self.assertEqual(run_made(((".", 0, tuple(ahead) + (("call", "f", 1), ("tell",))), ("f", 1, code))), worth)
        # A closure is no shape; parts come behind the locals.
        blocks = ((".", 0, (("close", "f", 0), ("call", "f", 1), ("tell",))), ("f", 1, code))
        self.assertEqual(run_made(blocks), DULL)
        twice = (("ask", 1, (("pair", 1),), 4), ("local", 3), ("local", 0), ("shape", "told", 2), ("tell",))
        blocks = ((".", 0, (("shape", "x", 0), ("shape", "a", 0), ("shape", "b", 0), ("shape", "pair", 2), ("call", "f", 2), ("tell",))),
                  ("f", 2, twice))
        self.assertEqual(run_made(blocks), shape("told", shape("b"), shape("x")))

    def test_too_long(self):
        blocks = ((".", 0, (("call", ".", 0), ("tell",))),)
        for most in (1, 5, 2000):
            with self.assertRaises(TooLong) as caught:
                run_made(blocks, most=most)
            self.assertEqual(caught.exception.most, most)
            self.assertIsInstance(caught.exception, TongueError)
            self.assertNotIsInstance(caught.exception, TooGreat)
        with self.assertRaises(TooLong) as caught:
            run_made(blocks)
        self.assertEqual(caught.exception.most, 2000)
        self.assertEqual(erased_scope(SCOPE), PROGRAM)


if __name__ == "__main__":
    unittest.main()
