import random
import unittest

from kindsbyworth.desk import Desk
from kindsbyworth.errors import (
    Absent, Broken, Holed, NoBack, NoHole, NoItem, NoLibrary, NoName, NoText, Taken, TongueError, TooGreat, TooLong, Unjudged,
)
from kindsbyworth.items import names_of
from kindsbyworth.itemtexts import show_item
from kindsbyworth.termtexts import show_term
from tests.library import ORDER, TEXTS, item, t
from tests.samples import ODD_THINGS, changed_rows, changed_texts
from tests.test_judging import made
from tests.test_kinds import ENDLESS

TWO = """define two -
take run (family nat)
result (family nat)
row *
body (call add ?x (shape nat next ?y))"""


def desk(*keys):
    """A desk with a library `lib` of these items."""
    found = Desk()
    found.say("begin lib")
    for key in keys:
        found.say("put lib\n" + TEXTS[key])
    return found


class Desks(unittest.TestCase):
    def told(self, here, text, wanted):
        self.assertEqual(here.say(text), wanted)

    def refused(self, error, fields, here, text):
        before = [ask(here, word) for word in ("names", "holes")]
        with self.assertRaises(error) as caught:
            here.say(text)
        if fields is not None:
            self.assertEqual(vars(caught.exception), fields)
        self.assertEqual([ask(here, word) for word in ("names", "holes")], before)


def ask(here, word):
    try:
        return here.say(word + " lib")
    except NoLibrary:
        return None


class DeedsTest(Desks):
    def test_begin_put_names(self):
        here = Desk()
        self.told(here, "begin lib", "ok")
        self.told(here, "names lib", "none")
        self.told(here, "put lib\n" + TEXTS["nat"], "ok")
        self.told(here, "names lib", "nat")
        for key in ("bool", "even", "add"):
            self.told(here, "put lib\n" + TEXTS[key], "ok")
        self.told(here, "names lib", "nat bool even odd add")
        self.refused(Taken, {"name": "lib"}, here, "begin lib")
        self.refused(Taken, {"name": "add"}, here, "put lib\n" + TEXTS["add"])
        self.refused(NoLibrary, {"lib": "other"}, here, "names other")
        self.refused(NoLibrary, {"lib": "other"}, here, "put other\n" + TEXTS["add"])
        self.refused(NoItem, None, here, "put lib\nfamily lib.1.a 0")
        self.refused(Unjudged, {"spot": (), "word": "name"}, here, "put lib\ndefine f -\nresult (family list)")

    def test_change(self):
        here = desk(*ORDER[:14])
        self.told(here, "change lib\n" + TEXTS["add"], "ok")
        self.told(here, "change lib\n" + show_item(made("family bool 0", "shape no", "shape yes")), "ok even kindby")
        self.refused(Broken, {"name": "append"}, here, "change lib\n" + TEXTS["add"].replace("body @0", "body (shape nat zero)"))
        self.refused(NoName, {"name": "eye"}, here, "change lib\nfamily eye 0")
        self.refused(NoLibrary, {"lib": "a"}, here, "change a\nfamily nat 0")

    def test_out(self):
        here = desk("nat", "bool", "even")
        self.refused(Broken, {"name": "even"}, here, "out lib nat")
        self.refused(NoName, {"name": "odd"}, here, "out lib odd")
        self.refused(NoLibrary, {"lib": "a"}, here, "out a nat")
        self.told(here, "out lib even", "ok")
        self.told(here, "names lib", "nat bool")

    def test_fill(self):
        here = desk("nat", "add")
        here.say("put lib\n" + TWO)
        here.say("put lib\ndefine kind -\nresult !0\nrow\nbody ?k")
        here.say("put lib\ndefine f -\ntake run (call kind)\nresult (family nat)\nrow *\nbody (shape nat zero)")
        self.told(here, "fill lib k\n(family nat)", "ok f")
        self.told(here, "fill lib x\n@0", "ok")
        self.told(here, "fill lib y\n(call add @0 ?z)", "ok")
        self.refused(NoHole, {"hole": "x"}, here, "fill lib x\n@0")
        self.refused(Unjudged, {"spot": (1, 0, 1), "word": "around"}, here, "fill lib z\n@4")
        self.refused(NoItem, None, here, "fill lib z\n?two")
        self.told(here, "fill lib z\n?z", "ok")
        self.refused(NoLibrary, {"lib": "a"}, here, "fill a z\n@4")

    def test_picture(self):
        here = desk("nat")
        self.told(here, "picture lib", "1")
        self.told(here, "picture lib", "2")
        here.say("begin b")
        self.told(here, "put b\ndefine f -\nresult (family lib.2.nat)\nrow\nbody (shape lib.2.nat zero)", "ok")
        self.told(here, "run b\n(call f)", "(shape lib.2.nat zero)")
        self.told(here, "bare b\n(call f)", "(shape zero)")
        here.say("put lib\n" + TEXTS["add"])
        here.say("put lib\n" + TWO)
        self.refused(Holed, {"name": "x"}, here, "picture lib")
        self.refused(NoLibrary, {"lib": "a"}, here, "picture a")

    def test_back(self):
        here = desk("nat", "bool")
        here.say("picture lib")
        for text in ("5", "10", "1" * 40):
            self.refused(NoBack, {"many": int(text)}, here, "back " + text)
        self.told(here, "back 4", "ok")
        self.told(here, "back 2", "ok")
        self.told(here, "names lib", "nat")
        self.told(here, "picture lib", "1")
        self.told(here, "back 0", "ok")
        self.refused(NoLibrary, {"lib": "lib"}, here, "names lib")

    def test_two_desks_share_nothing(self):
        one, other = desk("nat"), desk()
        self.assertEqual((one.say("names lib"), other.say("names lib")), ("nat", "none"))


class AsksTest(Desks):
    def test_holes(self):
        here = desk("nat", "add")
        self.told(here, "holes lib", "none")
        here.say("put lib\n" + TWO)
        self.told(here, "holes lib", "x run (family nat)\nrun (family nat)\ny run (family nat)\nrun (family nat)")
        here.say("put lib\ndefine f -\ntake gone !0\ntake run @0\nresult (to gone (family nat) @2)\nrow * *\nbody (fun gone (family nat) ?a)")
        self.told(here, "holes lib", "a run @2\ngone !0\nrun @0\ngone (family nat)\n"
                  "x run (family nat)\nrun (family nat)\ny run (family nat)\nrun (family nat)")
        here.say("put lib\ndefine g -\nresult (family nat)\nrow\nbody (give gone (fun gone (family nat) (shape nat zero)) ?b)")
        self.assertIn("\nb gone (family nat)\nx run", here.say("holes lib"))
        self.refused(NoLibrary, {"lib": "a"}, here, "holes a")

    def test_kind(self):
        here = desk(*ORDER[:14])
        for text, kind in (("0", "N"), ("(fun run N @0)", "(to run N N)"), ("!3", "!4"), ("(shape vec none N)", "(family vec N 0)"),
                           ("(call append N 1 0 (shape vec some N 0 2 (shape vec none N)) (shape vec none N))", "(family vec N 1)"),
                           ("(fun run (call kindby Y) @0)", "(to run N N)")):
            self.told(here, "kind lib\n" + show_term(t(text)), show_term(t(kind)))
        self.asks_judge(here, "kind")

    def asks_judge(self, here, word):
        """Terms are judged first, closed, in manner run."""
        for text, spot, reason in (("@0", (), "around"), ("?a", (), "wish"), ("(call absent)", (), "name"), ("(call add Y 0)", (0,), "unlike"),
                                   ("(fun gone N @0)", (1,), "gone")):
            self.refused(Unjudged, {"spot": spot, "word": reason}, here, f"{word} lib\n" + show_term(t(text)))
        self.refused(NoLibrary, {"lib": "a"}, here, f"{word} a\n@0")

    def test_outcome(self):
        here = desk(*ORDER[:14])
        for text, outcome in (("(call add 1 2)", "3"), ("(fun run N (call add 1 @0))", "(fun run N (S @0))"),
                              ("(family vec (call kindby Y) (call add 1 0))", "(family vec N 1)")):
            self.told(here, "outcome lib\n" + show_term(t(text)), show_term(t(outcome)))
        self.asks_judge(here, "outcome")
        self.refused(TooGreat, None, here, "outcome lib\n" + show_term(t("(call add 25 25)")))

    def test_open_calls_wait_in_kinds_and_outcomes(self):
        here = desk("nat", "add")
        here.say("put lib\n" + TWO)
        self.told(here, "outcome lib\n(call two (shape nat zero))",
                  "(call add (call x (shape nat zero)) (shape nat next (call y (shape nat zero))))")
        self.told(here, "kind lib\n(call two (shape nat zero))", "(family nat)")
        self.refused(Holed, {"name": "x"}, here, "run lib\n(call two (shape nat zero))")
        self.refused(Holed, {"name": "x"}, here, "bare lib\n(call two (shape nat zero))")

    def test_run_and_bare(self):
        here = desk(*ORDER[:14])
        for text, worth, bare in (("(call add 1 2)", "3", "(shape next (shape next (shape next (shape zero))))"), ("N", "N", "dull"),
                                  ("(fun run N (call add 1 @0))", "(fun run N (call add 1 @0))", "fun"), ("!3", "!3", "dull"),
                                  ("(fun gone N 0)", "(fun gone N 0)", "wait"), ("(to run N N)", "(to run N N)", "dull"),
                                  ("(shape list cons N 0 (shape list nil N))", None, "(shape cons (shape zero) (shape nil))"),
                                  ("(shape list cons (to run N N) (fun run N @0) (shape list nil (to run N N)))", None, "(shape cons fun (shape nil))"),
                                  ("(shape vec some N 0 2 (shape vec none N))", None, "(shape some (shape next (shape next (shape zero))) (shape none))")):
            self.told(here, "run lib\n" + show_term(t(text)), show_term(t(worth or text)))
            self.told(here, "bare lib\n" + show_term(t(text)), bare)
        for word in ("run", "bare"):
            self.asks_judge(here, word)
            self.refused(TooGreat, None, here, f"{word} lib\n" + show_term(t("(call add 25 25)")))

    def test_too_long(self):
        here = desk("nat", "bool", "add")
        for word in ("outcome", "run", "bare", "kind"):
            self.refused(Unjudged, None, here, f"{word} lib\n" + show_term(ENDLESS))
        here.say("put lib\ndefine spin 0\ntake run (family nat)\nresult (family nat)\nrow (zero)\nbody (shape nat zero)\nrow (next *)\n"
                 "body (call add (call spin @0) (call spin @0))")
        for word in ("outcome", "run", "bare"):
            self.refused(TooLong, {"most": 2000}, here, f"{word} lib\n(call spin " + show_term(t("11")) + ")")
        self.told(here, "kind lib\n(call spin " + show_term(t("11")) + ")", "(family nat)")


class NoTextTest(Desks):
    TEXTS = ("begin b", "put lib\n" + TWO, "change lib\n" + TEXTS["add"], "out lib bool", "fill lib h\n(shape nat zero)", "back 1", "picture lib",
             "holes lib", "kind lib\n(shape nat zero)", "outcome lib\n(shape nat zero)", "run lib\n(shape nat zero)",
             "bare lib\n(shape nat zero)", "names lib")

    def here(self):
        found = desk("nat", "bool", "add")
        found.say("put lib\ndefine holed -\nresult (family nat)\nrow\nbody ?h")
        return found

    def test_of_anything(self):
        here = self.here()
        for thing in ODD_THINGS + (item("nat"), t("0"), self):
            self.refused(NoText, None, here, thing)
        for text in self.TEXTS:
            self.refused(NoText, None, here, [text])
            self.refused(NoText, None, here, (text,))

    def test_blanks_and_line_ends(self):
        for text in self.TEXTS:
            here = self.here()
            for other in (text + " ", " " + text, text + "\n", "\n" + text, text.replace(" ", "  ", 1), text.replace("lib", "lib ", 1) if "lib" in text
                          else text + " ", text.replace("\n", "\n\n", 1) if "\n" in text else text + "\n\n", text + "\n ", text.upper(),
                          text.replace("\n", " \n", 1) if "\n" in text else text + "  "):
                if other != text:
                    self.refused(NoText, None, here, other)

    def test_words_too_many_or_few(self):
        for text in self.TEXTS:
            here = self.here()
            line, _, below = text.partition("\n")
            rest = "\n" + below if below else ""
            for other in (line + " lib" + rest, line.split(" ")[0] + rest, " ".join(line.split(" ")[:-1]) + rest, line + "\nx" if not below else line,
                          line + rest + "\n@0", "s" + text):
                self.refused(NoText, None, here, other)

    def test_ahead_of_all_else(self):
        here = self.here()
        for text in ("put other\nfamily nat", "change other\n", "fill other h\n(at 0)", "kind other\n@00", "run other\n(family nat) ", "begin lib\n",
                     "out other  x", "back 00", "back -1", "back 01", "back a", "back +1", "back " + "1" * 41, "back 1 1", "picture other lib", "names"):
            self.refused(NoText, None, here, text)

    def test_changed_texts(self):
        """Each text that isn't just so written is refused; others say the same in other words."""
        chance = random.Random(7)
        for text in self.TEXTS:
            texts = changed_texts(text, " \n@(x") + changed_rows(text, "\n") + changed_rows(text, " ")
            for other in chance.sample(texts, min(len(texts), 150)):
                here = self.here()
                try:
                    here.say(other)
                except (TongueError, Absent):
                    continue
                self.assertFalse("  " in other or other.strip() != other)
                self.assertEqual(other.split(" ")[0].split("\n")[0], text.split(" ")[0])

    def test_words_that_are_no_names(self):
        here = self.here()
        for lib in ("LIB", "lib1", "a.1.b", "abcdefghi", "@", "(", "1"):
            for text in ("begin {}", "picture {}", "holes {}", "names {}", "out {} nat", "kind {}\n!0", "fill {} h\n!0", "put {}\nfamily a 0"):
                with self.assertRaises((NoText, NoLibrary, NoName)):
                    here.say(text.format(lib))
            with self.assertRaises((NoText, NoName)):
                here.say(f"out lib {lib}")
            with self.assertRaises((NoText, NoHole)):
                here.say(f"fill lib {lib}\n!0")

    def test_by_name_and_again(self):
        here = self.here()
        self.assertEqual(here.say(text="names lib"), "nat bool add holed")
        self.assertEqual(here.say("names lib"), "nat bool add holed")
        self.assertEqual(names_of(item("even")), ("even", "odd"))


if __name__ == "__main__":
    unittest.main()
