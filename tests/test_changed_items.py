"""Items of the library with some parts changed: each is let by with a paper, or refused as told."""

import random
import unittest

from kindsbyworth.errors import TongueError
from kindsbyworth.holes import filled, lifted, opened, wishes
from kindsbyworth.items import is_item
from kindsbyworth.judging import judged
from kindsbyworth.kinds import fit
from kindsbyworth.lots import waiting
from kindsbyworth.scopes import Scope
from kindsbyworth.terms import part_at, spots_of, with_part
from tests.library import ORDER, item, t
from tests.paperchecks import is_paper
from tests.samples import DUE, TAKE, shaped

PARTS = [t(text) for text in (
    "N", "B", "V", "0", "1", "Y", "!0", "!1", "@0", "@1", "@2", "@3", "(S @0)", "(S @1)", "(call add @0 @1)", "?a", "?b",
    "(call add 0 @0)", "(family vec N @0)", "(family vec N 0)", "(family fin @0)", "(family eq N @0 0)", "(fun run N @0)",
    "(family list N)", "(to run N N)", "(to gone !0 @0)", "(call kindby @0)", "(call twice @0)", "(family eq N @1 @0)")]
PATTERNS = [TAKE, DUE, shaped("zero"), shaped("next", TAKE), shaped("next", DUE), shaped("same"), shaped("none"),
            shaped("some", DUE, TAKE, TAKE), shaped("yes"), shaped("first", DUE), shaped("further", DUE, TAKE),
            shaped("cons", TAKE, TAKE)]


class Changes:
    def __init__(self, seed):
        self.chance = random.Random(seed)

    def one_of(self, things, changed):
        """The tuple with one of its things changed."""
        if not things:
            return things
        at = self.chance.randrange(len(things))
        return things[:at] + (changed(things[at]),) + things[at + 1:]

    def term(self, term):
        return with_part(term, self.chance.choice(spots_of(term)), self.chance.choice(PARTS))

    def pair(self, pair):
        if self.chance.random() < 0.7:
            return pair[0], self.term(pair[1])
        return {"run": "gone", "gone": "run"}[pair[0]], pair[1]

    def row(self, row):
        if self.chance.random() < 0.5:
            return self.one_of(row[0], lambda pattern: self.chance.choice(PATTERNS)), row[1]
        return row[0], self.term(row[1])

    def definition(self, definition):
        name, telescope, result, less, rows = definition
        word = self.chance.choice(("telescope", "result", "less", "rows", "rows", "rows", "out"))
        if word == "telescope":
            telescope = self.one_of(telescope, self.pair)
        elif word == "result":
            result = self.term(result)
        elif word == "less":
            less = self.chance.choice((None,) + tuple(range(len(telescope))))
        elif word == "rows":
            rows = self.one_of(rows, self.row)
        else:
            rows = rows[1:]
        return name, telescope, result, less, rows

    def shape(self, shape):
        if shape[2] and self.chance.random() < 0.5:
            return shape[0], shape[1], self.one_of(shape[2], self.term)
        return shape[0], self.one_of(shape[1], self.pair), shape[2]

    def item(self, thing):
        if thing[0] == "lot":
            return ("lot", self.one_of(thing[1], self.definition))
        word = self.chance.choice(("world", "indexes", "shapes", "shapes", "shapes"))
        if word == "world":
            return thing[:4] + (self.chance.randrange(3),) + thing[5:]
        if word == "indexes":
            return thing[:3] + (self.one_of(thing[3], lambda pair: ("gone", self.term(pair[1]))),) + thing[4:]
        return thing[:5] + (self.one_of(thing[5], self.shape),)


class ChangedTest(unittest.TestCase):
    def test_let_by_with_a_paper_or_refused(self):
        changes = Changes(5)
        items = [item(key) for key in ORDER]
        words = {}
        for _ in range(6000):
            at = changes.chance.randrange(len(ORDER))
            scope, made = Scope(tuple(items[:at])), changes.item(items[at])
            if changes.chance.random() < 0.4:
                made = changes.item(made)
            if is_item(made):
                try:
                    paper = judged(scope, made)
                except TongueError as refused:
                    words[refused.__class__.__name__] = True
                else:
                    words["paper"] = True
                    self.assertTrue(is_paper(scope, made, paper))
        for word in ("paper", "Unjudged", "Holds", "NoRow", "NoEnd", "Lacks", "Unclear", "Idle"):
            self.assertIn(word, words)

    def test_a_hole_at_any_place(self):
        """What stood there fits the wish of a hole that is let by, and fills it."""
        some = 0
        for at, key in enumerate(ORDER):
            scope, lot = Scope(tuple([item(name) for name in ORDER[:at]])), item(key)
            definitions = lot[1] if lot[0] == "lot" else ()
            for number, definition in enumerate(definitions):
                for row, (patterns, body) in enumerate(definition[4]):
                    for spot in spots_of(body):
                        rows = list(definition[4])
                        rows[row] = (patterns, with_part(body, spot, ("hole", "hole")))
                        holed = list(definitions)
                        holed[number] = definition[:4] + (tuple(rows),)
                        holed = ("lot", tuple(holed))
                        self.assertEqual(filled(holed, "hole", part_at(body, spot)), lot)
                        try:
                            paper = judged(scope, holed)
                        except TongueError:
                            continue
                        some = some + 1
                        self.assertTrue(is_paper(scope, holed, paper))
                        (name, around, manner, wish), = wishes(scope, holed)
                        inner = Scope(scope.all_items + (waiting(lifted(holed)),) + opened(wishes(scope, holed)))
                        self.assertIsNone(fit(inner, part_at(body, spot), wish, around=around, manner=manner))
        self.assertGreater(some, 20)


if __name__ == "__main__":
    unittest.main()
