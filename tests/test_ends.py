import copy
import itertools
import unittest

from kindsbyworth.ends import calls_of, ends_of
from kindsbyworth.errors import NoEnd, Ring, TongueError
from kindsbyworth.itemtexts import read_item
from tests.library import item, t
from tests.samples import DUE, NAT, TAKE, shaped


def definition(name, many, less, *rows):
    return (name, (("run", NAT),) * many, NAT, less, rows)


def row(patterns, body):
    return (patterns, t(body))


class CallsTest(unittest.TestCase):
    def word(self, word, patterns, body, less=0, called_less=0, many=None):
        """The word of the one call of `called` in a row of `caller`."""
        many = len(patterns) if many is None else many
        definitions = (definition("caller", len(patterns), less, row(patterns, body)),
                       definition("called", many, called_less))
        self.assertEqual(calls_of(definitions), (("caller", 0, "called", word),))

    def test_falls(self):
        self.word("falls", (shaped("next", TAKE),), "(call called @0)")
        self.word("falls", (shaped("next", shaped("next", TAKE)),), "(call called @0)")
        self.word("falls", (shaped("node", TAKE, DUE, TAKE),), "(call called @1)")
        self.word("falls", (shaped("next", TAKE), TAKE), "(call called @1 @0)")
        self.word("falls", (TAKE, shaped("next", TAKE)), "(call called @0 @1)", less=1)
        self.word("falls", (TAKE, shaped("next", TAKE)), "(call called @1 @0)", less=1, called_less=1)
        self.word("falls", (shaped("next", TAKE), TAKE), "(call called @0 @1)", less=0, called_less=1)

    def test_stays(self):
        self.word("stays", (TAKE,), "(call called @0)")
        self.word("stays", (TAKE, TAKE), "(call called @1 @0)")
        self.word("stays", (TAKE, TAKE), "(call called @1 @0)", less=1, called_less=1)
        self.word("stays", (shaped("next", TAKE), TAKE), "(call called @0 @1)", less=1)

    def test_none(self):
        self.word("none", (TAKE, TAKE), "(call called @0 @1)")
        self.word("none", (shaped("next", TAKE), TAKE), "(call called @0 @1)")
        self.word("none", (shaped("next", TAKE),), "(call called (S @0))")
        self.word("none", (shaped("next", TAKE),), "(call called 0)")
        self.word("none", (shaped("next", TAKE),), "(call called (give run @0 0))")
        self.word("none", (DUE,), "(call called @0)")
        self.word("none", (shaped("next", DUE),), "(call called @0)")
        self.word("none", (shaped("next", TAKE),), "(call called @1)")
        self.word("none", (DUE, TAKE), "(call called @0 @0)")

    def test_less_none(self):
        for less, called_less in ((None, 0), (0, None), (None, None)):
            self.word("none", (shaped("next", TAKE),), "(call called @0)", less, called_less)
            self.word("none", (TAKE,), "(call called @0)", less, called_less)

    def test_no_term_there(self):
        self.word("none", (shaped("next", TAKE),), "(call called)")
        self.word("none", (TAKE, TAKE), "(call called @0)", 1, 1)
        self.word("stays", (TAKE,), "(call called 0 @0)", 0, 1, 2)

    def test_beneath_bodies(self):
        self.word("falls", (shaped("next", TAKE),), "(fun run N (call called @1))")
        self.word("none", (shaped("next", TAKE),), "(fun run N (call called @0))")
        self.word("falls", (shaped("next", TAKE),), "(fun run (call called @0) @0)")
        self.word("falls", (shaped("next", TAKE),), "(to gone N (fun run N (call called @2)))")
        self.word("none", (shaped("next", TAKE),), "(to gone N (fun run N (call called @1)))")
        self.word("none", (shaped("next", TAKE),), "(to gone N (fun run N (call called @3)))")

    def test_wherever_it_stands(self):
        for body in ("(S (call called @0))", "(family list (call called @0))", "(give run (call called @0) 0)",
                     "(give gone 0 (call called @0))", "(call other (call called @0))", "(to run N (call called @1))"):
            self.word("falls", (shaped("next", TAKE),), body)

    def test_one_for_each_call_as_definitions_rows_spots_rise(self):
        one = definition("one", 1, 0, row((shaped("next", TAKE),), "(call two (call one @0) (call one 0))"),
                         row((TAKE,), "(call one (call absent))"))
        two = definition("two", 2, 1, row((TAKE, shaped("next", TAKE)), "(call two (call one @0) @0)"))
        self.assertEqual(calls_of((one, two)), (
            ("one", 0, "two", "none"), ("one", 0, "one", "falls"), ("one", 0, "one", "none"), ("one", 1, "one", "none"),
            ("two", 0, "two", "falls"), ("two", 0, "one", "falls")))
        self.assertEqual(calls_of((two, one))[0], ("two", 0, "two", "falls"))
        self.assertEqual(calls_of((two,)), (("two", 0, "two", "falls"),))
        self.assertEqual(calls_of(item("even")[1]), (("even", 1, "odd", "falls"), ("odd", 1, "even", "falls")))
        self.assertEqual(calls_of(item("pred")[1]), ())
        self.assertEqual(calls_of(definitions=item("add")[1]), (("add", 1, "add", "falls"),))

    def test_calls_alone(self):
        families = definition("f", 1, 0, row((shaped("next", TAKE),), "(family f @0)"),
                              row((TAKE,), "(shape f f (family f @0) (call f @0))"))
        self.assertEqual(calls_of((families,)), (("f", 1, "f", "stays"),))

    def test_far_names(self):
        far = definition("a.2.b", 1, 0, row((shaped("next", TAKE),), "(call a.2.b @0)"))
        self.assertEqual(calls_of((far,)), (("a.2.b", 0, "a.2.b", "falls"),))

    def test_by_form_alone_however_many(self):
        patterns = TAKE
        for _ in range(3000):
            patterns = shaped("next", patterns)
        definitions = (definition("f", 1, 0, *[((patterns,), ("call", "f", (("at", 0),)))] * 40),)
        self.assertEqual(calls_of(definitions), tuple(("f", k, "f", "falls") for k in range(40)))


def staying(names, calls):
    """Definitions of these names with these staying calls, each in a row of its own."""
    return tuple([definition(name, 1, 0, *[((TAKE,), ("call", called, (("at", 0),)))
                                           for caller, called in calls if caller == name]) for name in names])


class EndsTest(unittest.TestCase):
    def test_numbers(self):
        for key in ("add", "twice", "even", "append", "pred"):
            found = ends_of(item(key)[1])
            self.assertEqual(len(found), len(item(key)[1]))
            self.assertTrue(all(type(number) is int and number >= 0 for number in found))
        found = ends_of(definitions=staying("abc", (("a", "b"), ("b", "c"), ("a", "c"))))
        self.assertTrue(found[0] > found[1] > found[2] >= 0)

    def test_no_end(self):
        one = definition("one", 1, 0, row((TAKE,), "(call two @0)"), row((TAKE,), "(S (call one 0))"),
                         row((TAKE,), "(call one 1)"))
        two = definition("two", 1, 0, row((TAKE,), "(call one 1)"))
        for definitions, name, number in (((one, two), "one", 1), ((two, one), "two", 0)):
            with self.assertRaises(NoEnd) as caught:
                ends_of(definitions)
            self.assertEqual((caught.exception.name, caught.exception.row), (name, number))
            self.assertIsInstance(caught.exception, TongueError)

    def test_no_end_goes_ahead_of_a_ring(self):
        ring = definition("ring", 1, 0, row((TAKE,), "(call ring @0)"))
        amiss = definition("amiss", 1, None, row((TAKE,), "0"), row((TAKE,), "(call amiss @0)"))
        with self.assertRaises(NoEnd) as caught:
            ends_of((ring, amiss))
        self.assertEqual((caught.exception.name, caught.exception.row), ("amiss", 1))

    def test_every_graph_of_three(self):
        pairs = [(one, other) for one in "abc" for other in "abc"]
        for chosen in itertools.product((False, True), repeat=9):
            calls = [pair for pair, is_there in zip(pairs, chosen) if is_there]
            definitions = staying("abc", calls)
            try:
                numbers = dict(zip("abc", ends_of(definitions)))
            except Ring as refused:
                names = refused.names
                self.assertIsInstance(names, tuple)
                self.assertEqual(len(set(names)), len(names))
                for one, other in zip(names, names[1:] + names[:1]):
                    self.assertIn((one, other), calls)
            else:
                for one, other in calls:
                    self.assertLess(numbers[other], numbers[one])

    def test_a_ring(self):
        for calls, names in (((("a", "a"),), {"a"}), ((("a", "b"), ("b", "a")), {"a", "b"}),
                             ((("a", "b"), ("b", "c"), ("c", "b")), {"b", "c"})):
            with self.assertRaises(Ring) as caught:
                ends_of(staying("abc", calls))
            self.assertEqual(set(caught.exception.names), names)
            self.assertIsInstance(caught.exception, TongueError)

    def test_many_definitions(self):
        names = ["".join(pair) for pair in itertools.product("abcdefgh", repeat=2)]
        calls = list(zip(names, names[1:]))
        found = ends_of(staying(names, calls))
        self.assertEqual(sorted(found, reverse=True), list(found))
        with self.assertRaises(Ring) as caught:
            ends_of(staying(names, calls + [(names[-1], names[0])]))
        self.assertEqual(len(caught.exception.names), len(names))

    def test_falling_calls_make_no_ring(self):
        self.assertEqual(len(ends_of(item("even")[1])), 2)
        text = """define f 0
take run (family nat)
result (family nat)
row (next *)
body (call g @0)
row (zero)
body (shape nat zero)
define g 0
take run (family nat)
result (family nat)
row *
body (call f @0)"""
        found = ends_of(read_item(text)[1])
        self.assertGreater(found[1], found[0])

    def test_unchanged(self):
        definitions = item("even")[1]
        kept = copy.deepcopy(definitions)
        self.assertEqual(ends_of(definitions), ends_of(kept))
        self.assertEqual(definitions, kept)


if __name__ == "__main__":
    unittest.main()
