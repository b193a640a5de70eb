import re
import unittest

from kindsbyworth.errors import NoText, TongueError
from kindsbyworth.terms import is_term
from kindsbyworth.termtexts import read_term, show_term
from tests.samples import NAT, ODD_THINGS, TERMS, ZERO, changed_rows, changed_texts, deep_term, next_of, wide_term

# The document's own examples, and each word.
PAIRS = (
    ("@0", ("at", 0)),
    ("@12", ("at", 12)),
    ("@" + "9" * 40, ("at", 10 ** 40 - 1)),
    ("!0", ("world", 0)),
    ("!9", ("world", 9)),
    ("?a", ("hole", "a")),
    ("?abcdefgh", ("hole", "abcdefgh")),
    ("(to run (family nat) !0)", ("to", "run", NAT, ("world", 0))),
    ("(fun gone !0 @0)", ("fun", "gone", ("world", 0), ("at", 0))),
    ("(give run @1 @0)", ("give", "run", ("at", 1), ("at", 0))),
    ("(family list (family nat))", ("family", "list", (NAT,))),
    ("(shape nat next @0)", ("shape", "nat", "next", (("at", 0),))),
    ("(call add @1 @0)", ("call", "add", (("at", 1), ("at", 0)))),
    ("(family nat)", NAT),
    ("(shape nat zero)", ZERO),
    ("(call x)", ("call", "x", ())),
    ("(call a.10.b (shape lib.2.nat zero))", ("call", "a.10.b", (("shape", "lib.2.nat", "zero", ()),))),
    ("(to gone !8 (fun run @0 ?h))", ("to", "gone", ("world", 8), ("fun", "run", ("at", 0), ("hole", "h")))),
)

SIGNS = " ()@!?01a.-*\nR\t"

NEAR = "[a-z]{1,8}"
NAME = rf"{NEAR}(?:\.[1-9][0-9]{{0,39}}\.{NEAR})?"
LEAF = rf"@(?:0|[1-9][0-9]{{0,39}})|![0-9]|\?{NEAR}"
WHOLE = rf"\((?:(?:to|fun|give) (?:run|gone) ~ ~|(?:family|call) {NAME}(?: ~)*|shape {NAME} {NEAR}(?: ~)*)\)"


def is_just_so_written(text):
    """Whether a text is a term's, found apart from the program: what is a term becomes ~, from within."""
    if "~" in text:
        return False
    left = re.sub(LEAF, "~", text)
    while True:
        fewer = re.sub(WHOLE, "~", left)
        if fewer == left:
            return left == "~"
        left = fewer


class ShowTest(unittest.TestCase):
    def test_pairs(self):
        for text, term in PAIRS:
            self.assertEqual(show_term(term), text)
            self.assertEqual(read_term(text), term)

    def test_there_and_back(self):
        for term in TERMS + (deep_term(40), wide_term(400), next_of(deep_term(39))):
            text = show_term(term)
            self.assertTrue(is_just_so_written(text), text)
            self.assertEqual(read_term(text), term)
            self.assertIs(type(read_term(text)), tuple)

    def test_forty_within_one_another(self):
        text = "(family list " * 39 + "@0" + ")" * 39
        self.assertEqual(read_term(text), deep_term(40))
        self.assertEqual(show_term(deep_term(40)), text)
        for amiss in (text + ")", text[:-1], "(" + text, "(" + text + ")", text.replace("@0", ""), text[13:]):
            self.assertRaises(NoText, read_term, amiss)

    def test_by_names(self):
        self.assertEqual(show_term(term=NAT), "(family nat)")
        self.assertEqual(read_term(text="(family nat)"), NAT)


class NoTextTest(unittest.TestCase):
    def refused(self, thing):
        with self.assertRaises(NoText) as caught:
            read_term(thing)
        self.assertIsInstance(caught.exception, TongueError)
        self.assertIsInstance(caught.exception, ValueError)

    def test_of_anything(self):
        for thing in ODD_THINGS + TERMS:
            self.refused(thing)

    def test_numbers(self):
        for text in ("@", "@00", "@01", "@-1", "@+1", "@ 1", "@1 ", "@1_0", "@x", "@" + "9" * 41, "@1" + "0" * 40,
                     "@" + "1" * 5000, "!", "!10", "!00", "!01", "!-1", "!x", "@\u0661", "@\u00b2", "!\u0661", "@1.",
                     "!" + "1" * 41, "@0x1", "@1\n", "@\n1", "\n@1", "0", "1", "@@1", "!@1"):
            self.refused(text)

    def test_holes(self):
        for text in ("?", "?A", "?abcdefghi", "? a", "?a ", "?a.1.b", "?a\n", "?1", "??a", "?\u00e9"):
            self.refused(text)

    def test_blanks_brackets_and_lines(self):
        for text in ("(family  nat)", " (family nat)", "(family nat) ", "( family nat)", "(family nat )",
                     "(familynat)", "(family\tnat)", "(family\nnat)", "(family nat)\n", "\n(family nat)",
                     "[family nat]", "{family nat}", "<family nat>", "family nat", "(family nat", "family nat)",
                     "((family nat))", "()", "(())", ")(", "(family nat))", "(family nat)(family nat)",
                     "(family nat) (family nat)", "(to run(family nat) !0)", "(to run (family nat)!0)",
                     "(to run  (family nat) !0)", "(to run (family nat)  !0)", "(give run @1 @0\r)",
                     "(call add @1, @0)", "(call add @1@0)"):
            self.refused(text)

    def test_words(self):
        for text in ("(to)", "(to run)", "(to run !0)", "(to !0 !0)", "(to run !0 !0 !0)", "(to none !0 !0)",
                     "(to !0 run !0)", "(to run gone !0 !0)", "(run to !0 !0)", "(To run !0 !0)", "(give run !0 x)",
                     "(family)", "(family !0)", "(family nat nat)", "(family a.0.b)", "(family a.1)", "(shape nat)",
                     "(shape nat a.1.b)", "(shape nat !0)", "(shape nat next next)", "(call)", "(call Add)",
                     "(call abcdefghi)", "(hole a)", "(at 0)", "(world 0)", "(@0)", "(?a)", "(!0 !0)",
                     "((to) run !0 !0)", "(kind nat)", "(fun gone !0 @0 @0)", "(open a)", "(to run take !0)", "*",
                     "-", "(call f *)", "(family (family nat))", "(shape (family nat) next)"):
            self.refused(text)

    def test_a_sign_or_a_word_amiss(self):
        for text, _ in PAIRS:
            for amiss in changed_texts(text, SIGNS) + changed_rows(text, " "):
                if is_just_so_written(amiss):
                    self.assertEqual(show_term(read_term(amiss)), amiss)
                    self.assertTrue(is_term(read_term(amiss)))
                else:
                    self.refused(amiss)

    def test_long_texts(self):
        for text in ("(call f" + " @0" * 6000 + ")", "(call f " + "(family nat) " * 1500 + "!0)"):
            self.assertEqual(show_term(read_term(text)), text)
            self.refused(text[:-1])
            self.refused(text + " ")
            self.refused(text.replace("!0", "!0 ").replace("@0)", "@0 )"))


if __name__ == "__main__":
    unittest.main()
