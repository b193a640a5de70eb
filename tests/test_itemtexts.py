import unittest

from kindsbyworth.errors import NoText, TongueError
from kindsbyworth.items import is_item
from kindsbyworth.itemtexts import read_item, show_item
from tests.samples import (
    ADD, BOTH, DUE, EMPTY, GONE_LOT, ITEMS, LISTS, MIXED, NATS, ODD_THINGS, TAKE, TERMS, VECS, ZERO, changed_rows,
    changed_texts, shaped,
)

# Each item and its lines.
LINES = (
    (NATS, ("family nat 0", "shape zero", "shape next", "take run (family nat)")),
    (LISTS, ("family list 1", "param !0", "shape nil", "shape cons", "take run @0", "take run (family list @1)")),
    (VECS, (
        "family vec 1", "param !0", "index (family nat)",
        "shape none", "end (shape nat zero)",
        "shape some", "take gone (family nat)", "take run @1", "take run (family vec @2 @1)",
        "end (shape nat next @2)",
    )),
    (EMPTY, ("family void 8",)),
    (BOTH, ("family base.10.eq 2", "param !2", "param @0", "index @1", "shape same", "end @0")),
    (ADD, (
        "define add 0", "take run (family nat)", "take run (family nat)", "result (family nat)",
        "row (zero) *", "body @0",
        "row (next *) *", "body (shape nat next (call add @1 @0))",
    )),
    (MIXED, (
        "define head 2", "take gone !0", "take gone (family nat)", "take run (family vec @1 (shape nat next @0))",
        "result @2", "row * - (some - * *)", "body ?first",
        "define base.2.two -", "result (family nat)", "row", "body (shape nat next ?second)",
        "define bare -", "take run (family nat)", "result (to gone !3 (family nat))",
        "define pair 1", "take run (family nat)", "take run (family nat)", "result (family nat)",
        "row (next (next (zero))) *", "body (fun run (family nat) ?third)",
        "row * (zero)", "body (give gone @0 @12)",
    )),
    (GONE_LOT, ("define lone -", "result !9")),
)

SIGNS = " ()@!?0z*-.\n"


def term_text(term):
    """A term's text, written apart from the program."""
    if term[0] in ("at", "world", "hole"):
        return {"at": "@", "world": "!", "hole": "?"}[term[0]] + str(term[1])
    words = [word if isinstance(word, str) else term_text(word) for word in term if word != ()]
    if term[0] in ("family", "call", "shape"):
        words = list(term[:-1]) + [term_text(part) for part in term[-1]]
    return "(" + " ".join(words) + ")"


def pattern_text(pattern):
    if pattern[0] != "shape":
        return {"take": "*", "due": "-"}[pattern[0]]
    return "(" + " ".join([pattern[1]] + [pattern_text(inner) for inner in pattern[2]]) + ")"


def takes_text(telescope):
    return "".join(f"\ntake {mark} {term_text(kind)}" for mark, kind in telescope)


def item_text(item):
    """An item's text, written apart from the program."""
    if item[0] == "family":
        _, name, params, indexes, world, shapes = item
        text = f"family {name} {world}"
        text += "".join("\nparam " + term_text(kind) for _, kind in params)
        text += "".join("\nindex " + term_text(kind) for _, kind in indexes)
        for shape, arguments, ends in shapes:
            text += f"\nshape {shape}" + takes_text(arguments) + "".join("\nend " + term_text(end) for end in ends)
        return text
    texts = []
    for name, telescope, result, less, rows in item[1]:
        text = f"define {name} {'-' if less is None else less}" + takes_text(telescope)
        text += "\nresult " + term_text(result)
        for patterns, body in rows:
            text += "\nrow" + "".join(" " + pattern_text(pattern) for pattern in patterns)
            text += "\nbody " + term_text(body)
        texts.append(text)
    return "\n".join(texts)


class ThereAndBackTest(unittest.TestCase):
    def test_line_by_line(self):
        self.assertEqual({item for item, _ in LINES}, set(ITEMS))
        for item, lines in LINES:
            self.assertEqual(show_item(item).split("\n"), list(lines))
            self.assertEqual(read_item("\n".join(lines)), item)
            self.assertEqual(item_text(item), "\n".join(lines))

    def test_further_forms(self):
        w0 = ("world", 0)
        telescope = (("run", w0),) * 13
        items = [
            ("lot", (("f", telescope, w0, 12, (((DUE,) * 13, ZERO), ((TAKE,) * 13, ZERO))),)),
            ("lot", (("f", (("gone", w0),), w0, None, (((shaped("a", DUE, shaped("b"), TAKE),), ("hole", "x")),)),)),
            ("lot", tuple((f"{letter}.7.f", (), ("world", 9), None, ()) for letter in "abcdef")),
            ("family", "f", (("gone", w0),) * 4, (("gone", w0),) * 3, 0, tuple(
                (name, (("gone", w0), ("run", w0)) * many, (w0, ("at", many), ZERO)) for many,
                name in enumerate("abcd"))),
        ]
        for item in items:
            self.assertTrue(is_item(item))
            self.assertEqual(show_item(item), item_text(item))
            self.assertEqual(read_item(item_text(item)), item)

    def test_no_line_end_behind_the_last_line(self):
        for item in ITEMS:
            self.assertFalse(show_item(item).endswith("\n"))

    def test_patterns_however_deep(self):
        text = "define f -\ntake run @0\nresult @0\nrow " + "(s " * 4000 + "*" + ")" * 4000 + "\nbody @0"
        item = read_item(text)
        self.assertIs(is_item(item), True)
        self.assertEqual(show_item(item), text)
        self.assertRaises(NoText, read_item, text.replace("*)", "*"))
        self.assertRaises(NoText, read_item, text.replace("*)", "* )"))

    def test_by_names(self):
        self.assertEqual(show_item(item=EMPTY), "family void 8")
        self.assertEqual(read_item(text="family void 8"), EMPTY)


class NoTextTest(unittest.TestCase):
    def refused(self, thing):
        with self.assertRaises(NoText) as caught:
            read_item(thing)
        self.assertIsInstance(caught.exception, TongueError)
        self.assertIsInstance(caught.exception, ValueError)

    def test_of_anything(self):
        for thing in ODD_THINGS + ITEMS + TERMS:
            self.refused(thing)
        for term in TERMS:
            self.refused(term_text(term))

    def test_line_ends(self):
        for item, lines in LINES:
            text = "\n".join(lines)
            for amiss in (text + "\n", "\n" + text, text + "\n\n", text + " ", " " + text, text + "\r",
                          "\r\n".join(lines) + "\r", text.replace(" ", "  ", 1), text.replace(" ", "\n", 1),
                          text.replace(" ", "\t", 1), "\n".join(line + " " for line in lines),
                          "\n".join(" " + line for line in lines), "\n\n".join(lines) + "\n"):
                self.refused(amiss)

    def test_families(self):
        for text in ("family", "family ", "family nat", "family nat ", "family nat 9", "family nat 00",
                     "family nat -", "family nat -1", "family nat 10", "family 0 nat", "family Nat 0",
                     "family nat 0 0", "family  0", "family abcdefghi 0", "family a.0.b 0", "family a.1 0",
                     "family\nnat 0", "Family nat 0", "families nat 0", "family nat 0\nparam", "family nat 0\nparam ",
                     "family nat 0\nparam gone !0", "family nat 0\nparam  !0", "family nat 0\nparam !10",
                     "family nat 0\nparam ?a", "family nat 0\nparam !0 !0", "family nat 0\nparams !0",
                     "family nat 0\nindex !0\nparam !0", "family nat 0\nindex run !0", "family nat 0\nindex ?h",
                     "family nat 0\ntake run !0", "family nat 0\nend !0", "family nat 0\nresult !0",
                     "family nat 0\nrow\nbody !0", "family nat 0\nfamily gnat 0",
                     "family nat 0\ndefine f -\nresult !0", "family nat 1" + "0" * 40, "family nat " + "1" * 5000,
                     "family nat \u0661"):
            self.refused(text)

    def test_shapes(self):
        ahead = "family nat 0\n"
        for text in ("shape", "shape ", "shape Zero", "shape a.1.b", "shape zero one", "shape zero ",
                     "shape abcdefghi", "shape zero\nshape zero", "shape zero\nparam !0", "shape zero\nindex !0",
                     "shape zero\nend !0", "shape zero\ntake !0", "shape zero\ntake run", "shape zero\ntake run ",
                     "shape zero\ntake  !0", "shape zero\ntake none !0", "shape zero\ntake !0 run",
                     "shape zero\ntake run !0 !0", "shape zero\ntake run ?a", "shape zero\ntake run\n!0",
                     "shape\nzero", "shape zero\nmake run !0"):
            self.refused(ahead + text)
        self.refused("family nat 0\nindex !0\nshape zero")
        self.refused("family nat 0\nindex !0\nshape zero\nend !0\nend !0")
        self.refused("family nat 0\nindex !0\nshape zero\nend !0\ntake run !0")
        self.refused("family nat 0\nindex !0\nshape zero\nend ?a")
        self.refused("family nat 0\nindex !0\nshape zero\nend")
        self.assertTrue(is_item(read_item("family nat 0\nindex !0\nshape zero\nend !0")))

    def test_definitions(self):
        for text in ("define", "define f", "define f -", "define f 0\nresult !0", "define f -1\nresult !0",
                     "define f \nresult !0", "define - f\nresult !0", "define f - -\nresult !0", "define f -\nresult",
                     "define f -\nresult !0\nresult !0", "define f -\nresult run !0", "define f -\nresult ?a",
                     "define F -\nresult !0", "define a.01.b -\nresult !0", "define f -\nresult !0\ntake run !0",
                     "define f 1\ntake run !0\nresult !0", "define f 00\ntake run !0\nresult !0",
                     "define f None\ntake run !0\nresult !0", "define f +0\ntake run !0\nresult !0",
                     "define f -\ntake run ?a\nresult !0", "define f -\ntake !0\nresult !0",
                     "define f -\ntake\nresult !0", "define f -\nresult !0\ndefine f -\nresult !0",
                     "define f -\nresult !0\nfamily nat 0", "define f -\nresult !0\nshape a",
                     "define f -\nresult !0\nend !0", "result !0", "lot", "lot\ndefine f -\nresult !0",
                     "define f -\nresult !0\n\ndefine g -\nresult !0",
                     "define f 1" + "0" * 40 + "\ntake run !0\nresult !0", "define f *\nresult !0",
                     "define f 0\nresult !0", "define f -\nparam !0\nresult !0"):
            self.refused(text)

    def test_rows(self):
        ahead = "define f -\ntake run !0\nresult !0\n"
        for right in ("row *\nbody !0", "row -\nbody !0", "row (a)\nbody ?h", "row (a * -)\nbody !0\nrow *\nbody !1",
                      "row (a (b (c)) -)\nbody !0"):
            self.assertTrue(is_item(read_item(ahead + right)))
        for text in ("row\nbody !0", "row \nbody !0", "row * *\nbody !0", "row *", "row *\nbody", "row *\nbody ",
                     "body !0", "row *\nrow *\nbody !0", "row *\nbody !0\nbody !0", "row  *\nbody !0",
                     "row * \nbody !0", "row a\nbody !0", "row ( a)\nbody !0", "row (a )\nbody !0",
                     "row (a  *)\nbody !0", "row ()\nbody !0", "row (a\nbody !0", "row a)\nbody !0",
                     "row (a))\nbody !0", "row ((a))\nbody !0", "row (a*)\nbody !0", "row (a(b))\nbody !0",
                     "row (A)\nbody !0", "row (a.1.b)\nbody !0", "row (* a)\nbody !0", "row (a b)\nbody !0",
                     "row (a @0)\nbody !0", "row @0\nbody !0", "row **\nbody !0", "row take\nbody !0",
                     "row ?\nbody !0", "row _\nbody !0", "row (abcdefghi)\nbody !0", "row *\nbody !0 !0",
                     "row *\nbody *", "row *\nbody run !0", "row *\nbody !10", "rows *\nbody !0", "row *\nbodies !0",
                     "row *,\nbody !0", "row )(\nbody !0", "row *\nbody ?h\nrow *\nbody ?h", "row *\nbody ?f",
                     "row *\nbody (call f ?a ?a)", "row [a]\nbody !0", "row (a *) \nbody !0", "row*\nbody !0",
                     "row(a)\nbody !0"):
            self.refused(ahead + text)

    def compared(self, amiss):
        """Either refused, or just so written of another item."""
        try:
            item = read_item(amiss)
        except NoText:
            return False
        self.assertTrue(is_item(item), amiss)
        self.assertEqual(item_text(item), amiss)
        return True

    def test_a_sign_amiss(self):
        for item, lines in LINES:
            for amiss in changed_texts("\n".join(lines), SIGNS):
                self.compared(amiss)

    def test_a_line_amiss(self):
        for item, lines in LINES:
            for amiss in changed_rows("\n".join(lines), "\n"):
                self.compared(amiss)

    def test_a_word_amiss(self):
        for item, lines in LINES:
            for amiss in changed_rows("\n".join(lines), " "):
                self.compared(amiss)

    def test_how_many_lines_may_be_out(self):
        # Lines without which the rest is an item by form.
        for item, without in ((NATS, (1, 2, 3)), (VECS, (1, 6, 7, 8)), (ADD, ()), (GONE_LOT, ()), (BOTH, (1, 2))):
            lines = list(dict(LINES)[item])
            for place in range(len(lines)):
                text = "\n".join(lines[:place] + lines[place + 1:])
                self.assertIs(self.compared(text), place in without, text)

    def test_lines_twice(self):
        for item, lines in LINES:
            for place in range(len(lines)):
                twice = "\n".join(lines[:place + 1] + lines[place:])
                if lines[place].split(" ")[0] not in ("param", "index", "take"):
                    self.assertFalse(self.compared(twice), twice)

    def test_lines_exchanged_with_the_next(self):
        for item, lines in LINES:
            words = [line.split(" ")[0] for line in lines]
            for place in range(len(lines) - 1):
                pair = words[place:place + 2]
                exchanged = lines[place:place + 2][::-1]
                mixed = "\n".join(lines[:place] + exchanged + lines[place + 2:])
                if pair[0] != pair[1] and sorted(pair) != ["shape", "take"]:
                    self.assertFalse(self.compared(mixed), mixed)


if __name__ == "__main__":
    unittest.main()
