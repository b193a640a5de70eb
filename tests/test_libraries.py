import copy
import random
import unittest

from kindsbyworth.errors import (
    Absent, Broken, Holed, Idle, Lacks, NoBack, NoEnd, NoHole, NoItem, NoLibrary, NoName, NoPicture, NoRow, NoTerm, Taken,
    TongueError, TooGreat, TooLong, Unjudged,
)
from kindsbyworth.holes import filled, lifted, opened, wishes
from kindsbyworth.itemchecks import paper_holds
from kindsbyworth.items import holes_of, is_item, names_of
from kindsbyworth.itemtexts import read_item, show_item
from kindsbyworth.judging import judged
from kindsbyworth.libraries import Libraries
from kindsbyworth.scopes import Scope
from kindsbyworth.terms import is_name, spots_of, with_part
from kindsbyworth.used import read_by, unfolded_by
from tests.library import ORDER, TEXTS, item, t, tele
from tests.samples import NAT, ODD_THINGS, TERMS, ZERO, number
from tests.test_changed_items import Changes
from tests.test_judging import made
from tests.test_kinds import ENDLESS

NO_NAMES = tuple([thing for thing in ODD_THINGS if not is_name(thing)]) + ("A", "abcdefghi", "a.1.b", "ab1", Scope())
HOLED = made("define two -", "take run N", "result N", "row *", "body (call add ?x (S ?y))")


def library(*keys):
    """Libraries with a library `lib` of these items of the library of tests."""
    made_of = Libraries()
    made_of.begin("lib")
    for key in keys:
        made_of.put("lib", item(key))
    return made_of


def full():
    return library(*ORDER[:14])


def seen(libraries):
    """All that Libraries tell."""
    found = []
    for lib in libraries.libraries():
        names = [name for one in libraries.typed(lib) for name in names_of(one)]
        found.append((lib, libraries.typed(lib), libraries.holes(lib), libraries.scope(lib).all_items, libraries.pictures(lib)))
        found.append(tuple([(libraries.paper(lib, name), libraries.hangs_on(lib, name)) for name in names]))
        found.append(tuple([libraries.picture_of(lib, n + 1) for n in range(libraries.pictures(lib))]))
    return found


class Libs(unittest.TestCase):
    def refused(self, error, fields, do, libraries):
        """What is refused so changes nothing."""
        before = seen(libraries)
        with self.assertRaises(error) as caught:
            do()
        if fields is not None:
            self.assertEqual(vars(caught.exception), fields)
        self.assertEqual(seen(libraries), before)

    def whole(self, libraries):
        """Each paper holds by the Scope of those ahead; holes, Scopes and what is hung on are as told."""
        for lib in libraries.libraries():
            items = libraries.scope(lib).all_items
            place = len(items) - sum(len(holes_of(one)) + 1 for one in libraries.typed(lib))
            for one in libraries.typed(lib):
                rows = [row for row in libraries.holes(lib) if row[0] in holes_of(one)]
                self.assertEqual([row[0] for row in rows], list(holes_of(one)))
                scope = Scope(items[:place + len(rows)])
                self.assertEqual(items[place:place + len(rows) + 1], opened(rows) + (lifted(one),))
                paper = libraries.paper(lib, names_of(one)[-1])
                self.assertTrue(paper_holds(scope, lifted(one), paper))
                for name in names_of(one):
                    self.assertEqual(libraries.paper(lib, name), paper)
                    self.assertEqual(libraries.hangs_on(lib, name), (
                        read_by(scope, lifted(one), paper), unfolded_by(scope, lifted(one), paper)))
                place = place + len(rows) + 1
            self.assertEqual(place, len(items))
            self.assertEqual(libraries.holes(lib), tuple(sorted(libraries.holes(lib))))


class BeginPutTest(Libs):
    def test_begin(self):
        libs = Libraries()
        self.assertEqual((len(libs), libs.libraries()), (0, ()))
        self.assertIsNone(libs.begin("lib"))
        self.assertIsNone(libs.begin(lib="a"))
        self.assertEqual((len(libs), libs.libraries()), (2, ("a", "lib")))
        self.assertEqual((libs.typed("a"), libs.holes("a"), libs.pictures("a"), libs.scope("a")), ((), (), 0, Scope()))
        for thing in NO_NAMES:
            self.refused(NoName, {"name": thing}, lambda: libs.begin(thing), libs)
        self.refused(Taken, {"name": "lib"}, lambda: libs.begin("lib"), libs)

    def test_no_library_goes_ahead_of_all(self):
        libs = library("nat")
        for thing in ODD_THINGS + ("lib.1.nat", "other", "LIB", Scope()):
            for do in (lambda: libs.put(thing, None), lambda: libs.change(thing, None), lambda: libs.out(thing, None),
                       lambda: libs.fill(thing, None, None), lambda: libs.picture(thing), lambda: libs.typed(thing),
                       lambda: libs.holes(thing), lambda: libs.paper(thing, None), lambda: libs.scope(thing),
                       lambda: libs.pictures(thing), lambda: libs.picture_of(thing, None), lambda: libs.hangs_on(thing, None),
                       lambda: libs.run(thing, ("at", 0))):
                self.refused(NoLibrary, {"lib": thing}, do, libs)
        self.assertTrue(issubclass(NoLibrary, Absent))

    def test_put_at_the_end(self):
        libs = Libraries()
        libs.begin("lib")
        for at, key in enumerate(ORDER):
            self.assertIsNone(libs.put(lib="lib", item=item(key)))
            self.assertEqual(libs.typed("lib"), tuple([item(one) for one in ORDER[:at + 1]]))
        self.assertEqual(libs.scope("lib"), Scope(libs.typed("lib")))
        self.whole(libs)

    def test_no_item(self):
        libs = library("nat")
        far = made("family base.1.nat 0")
        mixed = made("define f -", "result N", "row", "body 0", "define lib.1.g -", "result N", "row", "body 0")
        for thing in ODD_THINGS + TERMS + (far, mixed, ("open", "wish", (), NAT), (item("bool"),), list(item("bool")), HOLED + ((),)):
            self.refused(NoItem, None, lambda: libs.put("lib", thing), libs)
            self.refused(NoItem, None, lambda: libs.change("lib", thing), libs)

    def test_taken(self):
        libs = library("nat", "add")
        libs.put("lib", HOLED)
        for lines, name in ((("family nat 0",), "nat"), (("define f -", "result N", "define add -", "result N"), "add"),
                            (("define x -", "result N"), "x"), (("define f -", "result N", "row", "body ?two"), "two"),
                            (("define f -", "result N", "row", "body (call add ?y ?nat)"), "nat"),
                            (("define f -", "result N", "row", "body (call add ?y ?x)"), "x")):
            self.refused(Taken, {"name": name}, lambda: libs.put("lib", made(*lines)), libs)
        libs.begin("b")
        libs.put("b", item("nat"))
        self.whole(libs)

    def test_refused_as_judged(self):
        libs = library("nat", "bool", "add", "kindby")
        for error, fields, lines in (
                (Unjudged, {"spot": (), "word": "name"}, ("define f -", "result (family list N)")),
                (Unjudged, {"spot": (), "word": "name"}, ("define f -", "result (family lib.1.nat)")),
                (NoRow, {"row": 0, "word": "shape"}, ("define f -", "take run N", "result N", "row (yes)", "body 0")),
                (Unjudged, {"spot": (), "word": "unlike"}, ("define f -", "result N", "row", "body Y")),
                (NoEnd, {"name": "f", "row": 0}, ("define f -", "result N", "row", "body (call f)")),
                (Lacks, {"name": "f", "arguments": (number(1),)}, ("define f -", "take run N", "result N", "row (zero)", "body 0")),
                (Idle, {"name": "f", "row": 1}, ("define f -", "result N", "row", "body 0", "row", "body 0"))):
            self.refused(error, fields, lambda: libs.put("lib", made(*lines)), libs)
        long = ("lot", (("f", (("run", ("call", "kindby", (ENDLESS,))),), NAT, None, ()),))
        self.refused(Unjudged, None, lambda: libs.put("lib", long), libs)

    def test_no_typed_call_of_an_open_item(self):
        libs = library("nat", "add")
        libs.put("lib", HOLED)
        self.refused(Unjudged, {"spot": (), "word": "name"},
                     lambda: libs.put("lib", made("define f -", "result N", "row", "body (call x 0)")), libs)

    def test_holes_and_scope(self):
        libs = library("nat", "add")
        libs.put("lib", HOLED)
        rows = (("x", tele("run N"), "run", NAT), ("y", tele("run N"), "run", NAT))
        self.assertEqual(libs.holes("lib"), rows)
        self.assertEqual(libs.holes("lib"), wishes(Scope((item("nat"), item("add"))), HOLED))
        self.assertEqual(libs.scope("lib").all_items, (item("nat"), item("add")) + opened(rows) + (lifted(HOLED),))
        self.assertEqual(libs.typed("lib")[-1], HOLED)
        libs.put("lib", made("define a -", "result N", "row", "body ?h"))
        self.assertEqual([row[0] for row in libs.holes("lib")], ["h", "x", "y"])
        self.whole(libs)


class ChangeTest(Libs):
    def changed(self, libs, thing, anew):
        self.assertEqual(libs.change("lib", thing), anew)
        self.whole(libs)

    def test_in_its_place(self):
        libs = full()
        kindby = made("define kindby 0", "take run B", "result !0", "row (yes)", "body B", "row (no)", "body N")
        place = ORDER.index("kindby")
        self.changed(libs, kindby, ())
        self.assertEqual(libs.typed("lib")[place], kindby)
        self.assertEqual(libs.typed("lib")[:place] + libs.typed("lib")[place + 1:],
                         full().typed("lib")[:place] + full().typed("lib")[place + 1:])

    def test_names(self):
        libs = library("nat", "bool", "even")
        odd = ("define odd 0", "take run N", "result B", "row *", "body Y")
        even = ("define even 0", "take run N", "result B", "row *", "body Y")
        other = ("define other -", "result N", "row", "body 0")
        for name, lines in (("add", ("define add -", "result N")), ("odd", even), ("even", odd), ("other", odd + other),
                            ("other", other + odd), ("other", even + odd + other), ("other", even + other + odd),
                            ("nat", even + ("define nat -", "result N")), ("void", ("family void 0",)), ("odd", ("family even 0",))):
            self.refused(NoName, {"name": name}, lambda: libs.change("lib", made(*lines)), libs)
        # In any order.
        self.changed(libs, made(*odd, *even), ())
        self.refused(NoName, {"name": "odd"}, lambda: libs.change("lib", made("family even 0")), libs)

    def test_a_lot_for_a_family(self):
        libs = library("nat", "bool", "void")
        self.changed(libs, made("define void -", "result N", "row", "body 0"), ())
        self.changed(libs, made("family void 0", "shape one"), ())
        libs.put("lib", made("define f -", "take run (family void)", "result N", "row (one)", "body 0"))
        self.refused(Broken, {"name": "f"}, lambda: libs.change("lib", made("define void -", "result N", "row", "body 0")), libs)

    def test_taken_of_a_hole(self):
        libs = library("nat", "add")
        libs.put("lib", HOLED)
        libs.put("lib", made("define last -", "result N", "row", "body ?h"))
        start = ("define add 0", "take run N", "take run N", "result N", "row * *")
        for name, body in (("h", "?h"), ("x", "?x"), ("last", "?last"), ("two", "?two"), ("nat", "?nat"),
                           ("x", "(call add ?y (S ?x))"), ("h", "(S (S (S ?h)))")):
            self.refused(Taken, {"name": name}, lambda: libs.change("lib", made(*start, "body " + body)), libs)
        for body, left in (("?z", ["h", "x", "y", "z"]), ("0", ["h", "x", "y"])):
            self.changed(libs, made(*start, "body " + body), ())
            self.assertEqual([row[0] for row in libs.holes("lib")], left)
        # Its own holes may stay, its own names aren't others'.
        self.changed(libs, made("define two -", "take run N", "result N", "row *", "body (call add ?y ?x)"), ())

    def test_taken_goes_ahead_of_what_is_judged_and_behind_names(self):
        libs = library("nat", "add")
        libs.put("lib", HOLED)
        self.refused(Taken, {"name": "x"}, lambda: libs.change("lib", made("define add -", "take run 0", "result N", "row *", "body ?x")), libs)
        self.refused(NoName, {"name": "f"}, lambda: libs.change("lib", made("define f -", "take run 0", "result N", "row *", "body ?x")), libs)
        self.refused(NoItem, None, lambda: libs.change("lib", made("define two.1.f -", "result N", "row", "body ?x")), libs)

    def test_judged_by_those_ahead(self):
        libs = library("nat", "bool", "add", "kindby")
        self.refused(Unjudged, {"spot": (), "word": "name"},
                     lambda: libs.change("lib", made("define add -", "result (call kindby Y)", "row", "body 0")), libs)
        self.refused(Unjudged, {"spot": (), "word": "name"}, lambda: libs.change("lib", made("family nat 0", "shape s", "take run B")), libs)
        self.refused(Lacks, None, lambda: libs.change("lib", made("define add 0", "take run N", "take run N", "result N")), libs)

    def test_judged_anew_where_a_head_that_was_read_is_another(self):
        libs = full()
        box = made("family box 2", "param !0", "shape boxed", "take gone @0")
        self.changed(libs, box, ())
        bools = made("family bool 0", "shape no", "shape yes")
        self.changed(libs, bools, ("even", "kindby"))
        fins = made("family fin 0", "index N", "shape first", "take gone N", "end (S @0)")
        self.changed(libs, fins, ())
        libs.put("lib", made("define f -", "take run (family fin 0)", "result N"))
        self.changed(libs, item("fin"), ("f",))
        self.changed(libs, item("bool"), ("even", "kindby"))
        nats = made("family nat 0", "shape zero", "shape next", "take run N", "shape more")
        self.refused(Broken, {"name": "add"}, lambda: libs.change("lib", nats), libs)
        nats = made("family nat 0", "shape next", "take run N", "shape zero")
        self.changed(libs, nats, ("vec", "fin", "tree", "add", "twice", "even", "kindby", "append", "f"))

    def test_what_was_read_of_a_lot(self):
        libs = library("nat", "bool", "even")
        libs.put("lib", made("define f -", "result B", "row", "body (call odd 0)"))
        libs.put("lib", made("define g -", "result B", "row", "body (call even 0)"))
        even, odd = TEXTS["even"].split("\ndefine odd")
        one = read_item(even.replace("take run", "take gone", 0) + "\ndefine odd" + odd.replace("body (shape bool no)", "body (shape bool yes)"))
        self.changed(libs, one, ())
        two = made("define even -", "take run N", "result B", "row *", "body Y", "define odd -", "take gone N", "result B", "row *", "body Y")
        self.changed(libs, two, ("f",))
        three = made("define even -", "take gone N", "result B", "row *", "body Y", "define odd -", "take gone N", "result B", "row *", "body Y")
        self.changed(libs, three, ("g",))
        four = made("define odd -", "take run N", "result B", "row *", "body Y", "define even -", "take run N", "result B", "row *", "body Y")
        self.changed(libs, four, ("f", "g"))

    def test_judged_anew_where_rows_that_were_unfolded_are_others(self):
        libs = full()
        for key, text, anew in (
                ("add", TEXTS["add"].replace("define add 0", "define add -").replace("(call add @1 @0)", "@1").replace("body @0", "body @0"), None),
                ("twice", TEXTS["twice"].replace("define twice 0", "define twice 0").replace("row (zero)\nbody (shape nat zero)",
                                                                                          "row (zero)\nbody (shape nat next (shape nat zero))"), ())):
            if anew is None:
                self.refused(Broken, {"name": "append"}, lambda: libs.change("lib", read_item(text)), libs)
            else:
                self.changed(libs, read_item(text), anew)
        libs.put("lib", made("define f -", "result (family vec N (call add 1 0))", "row", "body (shape vec some N 0 0 (shape vec none N))"))
        self.assertEqual(libs.hangs_on("lib", "f"), (("add", "nat", "vec"), ("add",)))
        other = read_item(TEXTS["add"].replace("row (zero) *\nbody @0", "row (zero) (zero)\nbody (shape nat zero)\nrow (zero) (next *)\n"
                                              "body (shape nat next @0)"))
        self.refused(Broken, {"name": "append"}, lambda: libs.change("lib", other), libs)
        same = read_item(TEXTS["add"].replace("(shape nat next (call add @1 @0))", "(call add @1 (shape nat next @0))"))
        self.refused(Broken, {"name": "append"}, lambda: libs.change("lib", same), libs)

    def test_not_less(self):
        libs = full()
        self.changed(libs, read_item(TEXTS["kindby"].replace("define kindby 0", "define kindby -")), ())
        libs.put("lib", made("define f -", "take run (call kindby Y)", "result N", "row *", "body @0"))
        self.changed(libs, read_item(TEXTS["kindby"]), ())
        self.changed(libs, read_item(TEXTS["kindby"].replace("row (yes)\nbody (family nat)\nrow (no)\nbody (family bool)",
                                                           "row (no)\nbody (family bool)\nrow (yes)\nbody (family nat)")), ("f",))
        self.refused(Broken, {"name": "f"}, lambda: libs.change("lib", read_item(TEXTS["kindby"].replace(
            "row (yes)\nbody (family nat)", "row (yes)\nbody (family bool)"))), libs)

    def test_the_first_that_is_broken(self):
        libs = library("nat", "bool", "kindby")
        libs.put("lib", made("define odd -", "result !0", "row", "body (call kindby Y)", "define f -", "result (call kindby Y)", "row", "body 0"))
        libs.put("lib", made("define g -", "result (call kindby Y)", "row", "body 0"))
        change = read_item(TEXTS["kindby"].replace("body (family nat)", "body (family bool)"))
        self.refused(Broken, {"name": "odd"}, lambda: libs.change("lib", change), libs)
        self.assertEqual(libs.out("lib", "odd"), None)
        self.refused(Broken, {"name": "g"}, lambda: libs.change("lib", change), libs)

    def test_broken_where_a_reckoning_is_too_long(self):
        libs = library("nat")
        libs.put("lib", made("define seq -", "take run N", "take run N", "result N", "row (zero) *", "body @0", "row (next *) *", "body @0"))
        libs.put("lib", made("define spin -", "take run N", "result N", "row *", "body 0"))
        libs.put("lib", made("define kind -", "take run N", "result !0", "row (zero)", "body N", "row (next *)", "body N"))
        deep = "(S " * 11 + "0" + ")" * 11
        libs.put("lib", made("define f -", f"result (call kind (call spin {deep}))", "row", "body 0"))
        spin = ("define spin 0", "take run N", "result N", "row (zero)", "body 0", "row (next *)")
        self.refused(Broken, {"name": "f"}, lambda: libs.change("lib", made(*spin, "body (call seq (call spin @0) (call spin @0))")), libs)
        self.changed(libs, made(*spin, "body (call seq (call spin @0) 0)"), ("f",))
        great = "body (call seq (call spin @0) " + "(S " * 32 + "0" + ")" * 33
        self.refused(Broken, {"name": "f"}, lambda: libs.change("lib", made(*spin, great)), libs)

    def test_new_wishes_are_noted(self):
        libs = library("nat", "bool", "kindby")
        libs.put("lib", made("define f -", "result (call kindby Y)", "row", "body ?h"))
        self.assertEqual(libs.holes("lib"), (("h", (), "run", NAT),))
        self.changed(libs, read_item(TEXTS["kindby"].replace("body (family nat)", "body (family list)").replace("(family list)", "(to run (family bool) (family bool))")), ("f",))
        self.assertEqual(libs.holes("lib"), (("h", (), "run", t("(to run B B)")),))

    def test_what_hangs_on_others_that_are_judged_anew_is_not(self):
        libs = library("nat", "bool", "kindby")
        libs.put("lib", made("define f -", "take run (call kindby Y)", "result !0", "row *", "body N"))
        libs.put("lib", made("define g -", "result !0", "row", "body (call f 0)"))
        kindby = made("define kindby 0", "take run B", "result !0", "row *", "body N")
        # g's paper unfolds kindby too, as the kind of what f is given is asked.
        self.assertEqual(libs.hangs_on("lib", "g")[1], ("kindby",))
        self.changed(libs, kindby, ("f", "g"))
        libs.put("lib", made("define k -", "result !1", "row", "body !0"))
        self.changed(libs, item("kindby"), ("f", "g"))


class OutTest(Libs):
    def test_out(self):
        libs = full()
        for name in ("append", "kindby", "even", "twice", "tree"):
            self.assertIsNone(libs.out("lib", name))
            self.assertNotIn(name, [one for thing in libs.typed("lib") for one in names_of(thing)])
            self.whole(libs)
        self.assertIsNone(libs.out(lib="lib", name="add"))

    def test_no_first_name(self):
        libs = library("nat", "bool", "even")
        libs.put("lib", made("define f -", "result N", "row", "body ?h"))
        for thing in ODD_THINGS + ("odd", "h", "zero", "other", "lib.1.nat"):
            self.refused(NoName, {"name": thing}, lambda: libs.out("lib", thing), libs)

    def test_broken(self):
        libs = full()
        self.refused(Broken, {"name": "vec"}, lambda: libs.out("lib", "nat"), libs)
        self.refused(Broken, {"name": "even"}, lambda: libs.out("lib", "bool"), libs)
        self.refused(Broken, {"name": "append"}, lambda: libs.out("lib", "add"), libs)
        libs.out("lib", "append")
        libs.out("lib", "add")
        libs.put("lib", made("define f -", "result B", "row", "body (call odd 0)"))
        self.refused(Broken, {"name": "f"}, lambda: libs.out("lib", "even"), libs)
        libs.out("lib", "f")
        libs.out("lib", "even")
        self.whole(libs)

    def test_read_by_what_stands_in_heads_of_those_read(self):
        libs = library("nat", "bool", "vec")
        libs.put("lib", made("define f -", "result !1", "row", "body (to run !0 (family vec @0 0))"))
        self.refused(Broken, {"name": "vec"}, lambda: libs.out("lib", "nat"), libs)
        libs.put("lib", made("define g -", "result !2", "row", "body !1"))
        libs.out("lib", "g")
        self.assertEqual(len(libs.typed("lib")), 4)


class FillTest(Libs):
    def holed(self):
        libs = library("nat", "bool", "add")
        libs.put("lib", HOLED)
        return libs

    def test_fill(self):
        libs = self.holed()
        self.assertEqual(libs.fill("lib", "x", t("(S @0)")), ())
        self.assertEqual(libs.typed("lib")[-1], filled(HOLED, "x", t("(S @0)")))
        self.assertEqual([row[0] for row in libs.holes("lib")], ["y"])
        self.whole(libs)
        self.assertEqual(libs.fill(lib="lib", hole="y", term=t("(call add ?a ?b)")), ())
        self.assertEqual([row[0] for row in libs.holes("lib")], ["a", "b"])
        self.whole(libs)
        self.assertEqual(libs.run("lib", t("(call add 1 1)")), (number(2), 2))

    def test_no_hole(self):
        libs = self.holed()
        for thing in ODD_THINGS + ("two", "add", "z", "x.1.y"):
            self.refused(NoHole, {"hole": thing}, lambda: libs.fill("lib", thing, None), libs)

    def test_no_term(self):
        libs = self.holed()
        for thing in ODD_THINGS + (HOLED, ("at", -1), "0", ("hole", "X"), Scope()):
            self.refused(NoTerm, None, lambda: libs.fill("lib", "x", thing), libs)

    def test_as_change_by_the_filled_item(self):
        libs = self.holed()
        libs.put("lib", made("define f -", "result N", "row", "body ?h"))
        # Names of holes twice, or its own name.
        for term in ("?y", "?two", "(call add ?a ?a)"):
            self.refused(NoItem, None, lambda: libs.fill("lib", "x", t(term)), libs)
        for term, name in (("?h", "h"), ("?f", "f"), ("(call add ?nat ?h)", "h")):
            self.refused(Taken, {"name": name}, lambda: libs.fill("lib", "x", t(term)), libs)
        self.refused(Unjudged, {"spot": (0,), "word": "unlike"}, lambda: libs.fill("lib", "x", t("Y")), libs)
        self.refused(Unjudged, {"spot": (0,), "word": "around"}, lambda: libs.fill("lib", "x", t("@1")), libs)
        self.refused(Unjudged, {"spot": (0,), "word": "name"}, lambda: libs.fill("lib", "x", t("(call y 0)")), libs)
        self.refused(Unjudged, {"spot": (0,), "word": "name"}, lambda: libs.fill("lib", "x", t("(call f)")), libs)
        self.refused(NoEnd, {"name": "two", "row": 0}, lambda: libs.fill("lib", "x", t("(call two @0)")), libs)
        self.assertEqual(libs.fill("lib", "x", t("?x")), ())

    def test_what_hangs_on_it_is_judged_anew(self):
        libs = library("nat", "bool")
        libs.put("lib", made("define kind -", "result !0", "row", "body ?h"))
        libs.put("lib", made("define f -", "take run (call kind)", "result N", "row *", "body 0"))
        libs.put("lib", made("define g -", "result N", "row", "body 0"))
        # The kind of f's take steps to the open call.
        self.assertEqual(libs.hangs_on("lib", "f"), (("kind", "nat"), ("kind",)))
        self.assertEqual(libs.fill("lib", "h", t("B")), ("f",))
        self.assertEqual(libs.change("lib", made("define f -", "take run (call kind)", "result B", "row *", "body @0")), ())
        self.assertEqual(libs.hangs_on("lib", "f")[1], ("kind",))
        self.refused(Broken, {"name": "f"}, lambda: libs.change("lib", made("define kind -", "result !0", "row", "body ?h")), libs)
        self.assertEqual(libs.change("lib", made("define kind -", "result !0", "row", "body (give run (fun run N B) 0)")), ("f",))
        self.whole(libs)

    def test_a_lot_with_a_hole_whose_rows_cover_by_open_calls_wait(self):
        libs = library("nat", "bool")
        libs.put("lib", made("define kind -", "result !0", "row", "body ?h"))
        self.refused(NoRow, {"row": 0, "word": "family"},
                     lambda: libs.put("lib", made("define f -", "take run (call kind)", "result N", "row (zero)", "body 0")), libs)


class PictureTest(Libs):
    def test_picture(self):
        libs = library("nat", "add")
        self.assertEqual(libs.picture("lib"), 1)
        self.assertEqual(libs.pictures("lib"), 1)
        text = "\n".join([show_item(one) for one in libs.picture_of("lib", 1)])
        far = [TEXTS[key].replace("family nat", "family lib.1.nat").replace("shape nat ", "shape lib.1.nat ").replace(
            "call add", "call lib.1.add").replace("define add", "define lib.1.add") for key in ("nat", "add")]
        self.assertEqual(text, "\n".join(far))
        libs.put("lib", item("bool"))
        self.assertEqual(libs.picture(lib="lib"), 2)
        self.assertEqual(len(libs.picture_of(lib="lib", n=2)), 3)
        self.assertEqual(len(libs.picture_of("lib", 1)), 2)
        self.assertTrue(all(is_item(one) for one in libs.picture_of("lib", 2)))
        self.assertEqual(names_of(libs.picture_of("lib", 2)[2]), ("lib.2.bool",))

    def test_of_an_empty_library(self):
        libs = library()
        self.assertEqual((libs.picture("lib"), libs.picture_of("lib", 1)), (1, ()))

    def test_holed(self):
        libs = library("nat", "add")
        libs.put("lib", HOLED)
        libs.put("lib", made("define f -", "result N", "row", "body ?h"))
        self.refused(Holed, {"name": "h"}, lambda: libs.picture("lib"), libs)
        libs.out("lib", "f")
        self.refused(Holed, {"name": "x"}, lambda: libs.picture("lib"), libs)
        libs.fill("lib", "x", ZERO)
        libs.fill("lib", "y", ZERO)
        self.assertEqual(libs.picture("lib"), 1)

    def test_it_never_changes(self):
        libs = library("nat", "add")
        libs.picture("lib")
        before = libs.picture_of("lib", 1)
        libs.out("lib", "add")
        libs.change("lib", made("family nat 0", "shape none"))
        self.assertEqual(libs.picture_of("lib", 1), before)

    def test_no_picture(self):
        libs = library("nat")
        libs.picture("lib")
        for thing in [one for one in ODD_THINGS if one != 1 or one is True] + [2, ("lib", 1), "1"]:
            self.refused(NoPicture, {"n": thing}, lambda: libs.picture_of("lib", thing), libs)

    def test_far_names(self):
        libs = library("nat", "add")
        libs.begin("b")
        far = made("define f -", "result (family lib.1.nat)", "row", "body (call lib.1.add (shape lib.1.nat zero) (shape lib.1.nat zero))")
        self.refused(Unjudged, {"spot": (), "word": "name"}, lambda: libs.put("b", far), libs)
        libs.picture("lib")
        libs.put("b", far)
        self.assertEqual(libs.scope("b").all_items, libs.picture_of("lib", 1) + (far,))
        self.assertEqual(libs.hangs_on("b", "f"), (("lib.1.add", "lib.1.nat"), ()))
        self.whole(libs)
        for text in ("lib.2.nat", "lib.1.bool", "a.1.nat", "b.1.nat", "lib.10.nat"):
            self.refused(Unjudged, {"spot": (), "word": "name"}, lambda: libs.put("b", made("define g -", f"result (family {text})")), libs)
        # Near names are its own.
        self.refused(Unjudged, {"spot": (), "word": "name"}, lambda: libs.put("b", made("define g -", "result N")), libs)
        libs.put("b", item("nat"))
        libs.put("b", made("define g -", "take run N", "take run (family lib.1.nat)", "result N", "row * *", "body @1"))
        self.refused(Unjudged, {"spot": (), "word": "unlike"},
                     lambda: libs.put("b", made("define h -", "take run N", "result (family lib.1.nat)", "row *", "body @0")), libs)
        self.whole(libs)

    def test_editions_never_mix(self):
        libs = library("nat")
        libs.picture("lib")
        libs.picture("lib")
        libs.put("lib", made("define f -", "take run (family lib.1.nat)", "take run N", "result (family lib.1.nat)", "row * *", "body @1"))
        for take, result in (("lib.1.nat", "lib.2.nat"), ("lib.2.nat", "nat"), ("nat", "lib.1.nat")):
            self.refused(Unjudged, {"spot": (), "word": "unlike"}, lambda: libs.put(
                "lib", made("define g -", f"take run (family {take})", f"result (family {result})", "row *", "body @0")), libs)

    def test_pictures_that_pictures_name_in_the_order_in_which_they_were_made(self):
        libs = Libraries()
        for lib in ("a", "b", "c", "d"):
            libs.begin(lib)
        libs.put("c", item("nat"))
        libs.put("d", item("bool"))
        self.assertEqual((libs.picture("c"), libs.picture("d")), (1, 1))
        libs.put("b", made("define f -", "result (family d.1.bool)", "row", "body (shape d.1.bool yes)"))
        libs.put("b", made("define g -", "result (family c.1.nat)", "row", "body (shape c.1.nat zero)"))
        self.assertEqual((libs.picture("b"), libs.picture("c"), libs.picture("b")), (1, 2, 2))
        self.assertEqual([names_of(one) for one in libs.scope("b").all_items], [("c.1.nat",), ("d.1.bool",), ("f",), ("g",)])
        libs.put("a", made("define h -", "result (family d.1.bool)", "row", "body (call b.1.f)"))
        self.assertEqual([names_of(one) for one in libs.scope("a").all_items],
                         [("c.1.nat",), ("d.1.bool",), ("b.1.f",), ("b.1.g",), ("h",)])
        libs.put("a", made("define k -", "result (family c.2.nat)", "row", "body (shape c.2.nat zero)"))
        self.assertEqual([names_of(one) for one in libs.scope("a").all_items],
                         [("c.1.nat",), ("d.1.bool",), ("b.1.f",), ("b.1.g",), ("c.2.nat",), ("h",), ("k",)])
        self.whole(libs)
        libs.out("a", "h")
        self.assertEqual([names_of(one) for one in libs.scope("a").all_items], [("c.2.nat",), ("k",)])
        libs.change("a", made("define k -", "result (family d.1.bool)", "row", "body (shape d.1.bool no)"))
        self.assertEqual([names_of(one) for one in libs.scope("a").all_items], [("d.1.bool",), ("k",)])
        libs.change("a", made("define k -", "result (family d.1.bool)", "row", "body ?h"))
        libs.fill("a", "h", t("(call b.2.f)"))
        self.assertEqual([names_of(one) for one in libs.scope("a").all_items],
                         [("c.1.nat",), ("d.1.bool",), ("b.2.f",), ("b.2.g",), ("k",)])
        self.whole(libs)

    def test_a_picture_of_far_names(self):
        libs = library("nat")
        libs.picture("lib")
        libs.put("lib", made("define f -", "take run (family lib.1.nat)", "result N", "row (zero)", "body 0", "row (next *)", "body (S 0)"))
        libs.picture("lib")
        self.assertEqual(libs.picture_of("lib", 2)[1], read_item("""define lib.2.f -
take run (family lib.1.nat)
result (family lib.2.nat)
row (zero)
body (shape lib.2.nat zero)
row (next *)
body (shape lib.2.nat next (shape lib.2.nat zero))"""))


class AsksTest(Libs):
    def test_no_name(self):
        libs = library("nat", "bool", "even")
        libs.put("lib", made("define f -", "result N", "row", "body ?h"))
        for thing in ODD_THINGS + ("h", "zero", "other", "lib.1.nat"):
            self.refused(NoName, {"name": thing}, lambda: libs.paper("lib", thing), libs)
            self.refused(NoName, {"name": thing}, lambda: libs.hangs_on("lib", thing), libs)
        self.assertEqual(libs.paper(lib="lib", name="odd"), libs.paper("lib", "even"))
        self.assertEqual(libs.hangs_on(lib="lib", name="odd"), (("bool", "nat"), ()))

    def test_paper_of_the_lifted_lot(self):
        libs = library("nat", "add")
        libs.put("lib", HOLED)
        scope = Scope(libs.scope("lib").all_items[:-1])
        self.assertTrue(paper_holds(scope, lifted(HOLED), libs.paper("lib", "two")))
        self.assertFalse(paper_holds(scope, HOLED, libs.paper("lib", "two")))
        self.assertEqual(libs.paper("lib", "nat"), judged(Scope(), item("nat")))

    def test_run(self):
        libs = full()
        self.assertEqual(libs.run("lib", t("(call add 2 3)")), (number(5), 3))
        self.assertEqual(libs.run(lib="lib", term=t("(call add 2 3)"), most=3), (number(5), 3))
        for error, fields, term, more in ((Unjudged, {"spot": (0,), "word": "unlike"}, "(call add Y 0)", {}),
                                          (Unjudged, {"spot": (), "word": "around"}, "@0", {}), (Unjudged, {"spot": (), "word": "wish"}, "?a", {}),
                                          (TooLong, {"most": 2}, "(call add 2 3)", {"most": 2}), (TooGreat, None, "(call add 30 30)", {}),
                                          (Unjudged, {"spot": (), "word": "name"}, "(shape lib.1.nat zero)", {})):
            self.refused(error, fields, lambda: libs.run("lib", t(term), **more), libs)
        libs.picture("lib")
        # A term brings no picture with it.
        self.refused(Unjudged, {"spot": (), "word": "name"}, lambda: libs.run("lib", t("(shape lib.1.nat zero)")), libs)
        libs.put("lib", made("define far -", "result (family lib.1.nat)", "row", "body (shape lib.1.nat zero)"))
        self.assertEqual(libs.run("lib", t("(shape lib.1.nat zero)"))[1], 0)
        self.assertRaises(TypeError, libs.run, "lib", ZERO, 5)

    def test_judged_with_most_too(self):
        libs = full()
        self.assertEqual(libs.run("lib", t("(shape fin first (call add 3 3))"), most=1)[1], 0)
        bad = "(give run (fun run (family fin (call add 4 1)) 0) (shape fin first 4))"
        self.refused(TooLong, {"most": 2}, lambda: libs.run("lib", t(bad), most=2), libs)
        self.assertEqual(libs.run("lib", t(bad), most=5), (ZERO, 1))

    def test_holed(self):
        libs = library("nat", "add")
        libs.put("lib", HOLED)
        libs.put("lib", made("define f -", "take run N", "result N", "row *", "body (call two @0)"))
        for text in ("(call two 0)", "(call f 0)", "(fun run N (call f 0))"):
            self.refused(Holed, {"name": "x"}, lambda: libs.run("lib", t(text)), libs)
        self.refused(Unjudged, {"spot": (0,), "word": "unlike"}, lambda: libs.run("lib", t("(call two (fun run N (call f 0)))")), libs)
        self.refused(Unjudged, {"spot": (), "word": "name"}, lambda: libs.run("lib", t("(call x 0)")), libs)
        libs.fill("lib", "x", t("@0"))
        self.refused(Holed, {"name": "y"}, lambda: libs.run("lib", t("(call f 0)"), most=1), libs)
        libs.fill("lib", "y", t("@0"))
        self.assertEqual(libs.run("lib", t("(call f 1)")), (number(3), 4))


class EqualBackTest(Libs):
    def test_equal(self):
        one, other = full(), full()
        self.assertTrue(one == other)
        self.assertFalse(one != other)
        one.picture("lib")
        self.assertFalse(one == other)
        other.begin("b")
        other.picture("lib")
        self.assertFalse(one == other)
        one.begin("b")
        self.assertTrue(one == other)
        # Whatever deeds made them.
        one.out("lib", "append")
        one.put("lib", item("append"))
        self.assertTrue(one == other)
        one.out("lib", "twice")
        one.put("lib", item("twice"))
        self.assertFalse(one == other)
        self.assertTrue(Libraries() == Libraries())
        for thing in ODD_THINGS + (Scope(),):
            self.assertFalse(Libraries() == thing)
            self.assertTrue(Libraries() != thing)
        one, other = library("nat"), library("nat")
        for libs in (one, other):
            libs.begin("b")
        one.picture("lib")
        one.picture("b")
        other.picture("b")
        other.picture("lib")
        self.assertTrue(one == other)
        self.assertEqual(len(one), 2)

    def test_two_share_nothing(self):
        one, other = library("nat"), library("nat")
        one.put("lib", item("add"))
        one.picture("lib")
        self.assertEqual((len(other.typed("lib")), other.pictures("lib"), len(other)), (1, 0, 1))

    def test_back(self):
        libs = Libraries()
        states = [seen(libs)]
        for do in (lambda: libs.begin("lib"), lambda: libs.put("lib", item("nat")), lambda: libs.put("lib", item("add")),
                   lambda: libs.picture("lib"), lambda: libs.put("lib", HOLED), lambda: libs.fill("lib", "x", ZERO),
                   lambda: libs.change("lib", made("define add -", "take run N", "take run N", "result N", "row * *", "body @0")),
                   lambda: libs.begin("b"), lambda: libs.picture("b"),
                   lambda: libs.out("lib", "two")):
            do()
            with self.assertRaises(TongueError):
                libs.put("lib", None)
            states.append(seen(libs))
        many = len(states) - 1
        for thing in [one for one in ODD_THINGS if one not in (0, 1) or isinstance(one, bool)] + [-1, many + 1, "1", 10 ** 39, Scope()]:
            self.refused(NoBack, {"many": thing}, lambda: libs.back(thing), libs)
        for at in range(many, -1, -1):
            self.assertIsNone(libs.back(at))
            self.assertEqual(seen(libs), states[at])
            self.refused(NoBack, {"many": at + 1}, lambda: libs.back(at + 1), libs)
        self.assertEqual(libs, Libraries())
        libs.begin("lib")
        libs.back(many=1)
        self.assertEqual(libs.libraries(), ("lib",))

    def test_pictures_go_too(self):
        libs = library("nat")
        libs.picture("lib")
        libs.back(2)
        self.assertEqual(libs.pictures("lib"), 0)
        self.refused(Unjudged, {"spot": (), "word": "name"}, lambda: libs.put("lib", made("define f -", "result (family lib.1.nat)")), libs)
        self.assertEqual(libs.picture("lib"), 1)

    def test_nothing_handed_in_is_changed(self):
        libs = library("nat", "add")
        kept = copy.deepcopy(HOLED)
        libs.put("lib", HOLED)
        libs.fill("lib", "x", ZERO)
        self.assertEqual(HOLED, kept)


class Model:
    """A library by the words of the document alone: each item judged, or not, behind each deed."""

    def __init__(self):
        self.items = []
        self.papers = {}

    def scope(self, at):
        items = ()
        for one in self.items[:at]:
            items = items + opened(self.papers[names_of(one)[0]][1]) + (lifted(one),)
        return Scope(items)

    def judge(self, at):
        one = self.items[at]
        scope = self.scope(at)
        paper, rows = judged(scope, one), wishes(scope, one)
        self.papers[names_of(one)[0]] = (paper, rows)
        inner = Scope(scope.all_items + opened(rows))
        return read_by(inner, lifted(one), paper), unfolded_by(inner, lifted(one), paper)


def heads(one):
    if one[0] == "family":
        return {one[1]: (one[2:], ())}
    return {definition[0]: (definition[1:3], definition[4]) for definition in one[1]}


class RandomTest(Libs):
    def test_changes(self):
        changes = Changes(4)
        told = {}
        for turn in range(500):
            keys = [key for key in ORDER[:14] if changes.chance.random() < 0.8 or key in ("nat", "bool", "add", "vec")]
            libs = library(*keys)
            at = changes.chance.randrange(len(keys))
            old, new = item(keys[at]), changes.item(item(keys[at]))
            if not is_item(new):
                continue
            before = [libs.hangs_on("lib", names_of(one)[0]) for one in libs.typed("lib")]
            heads_changed = [name for name in heads(old) if heads(old)[name][0] != heads(new)[name][0]]
            rows_changed = [name for name in heads(old) if heads(old)[name][1] != heads(new)[name][1]]
            hanging = [one for place, one in enumerate(libs.typed("lib")) if place > at and (
                [name for name in heads_changed if name in before[place][0]] or
                [name for name in rows_changed if name in before[place][1]])]
            try:
                anew = libs.change("lib", new)
            except Broken as broken:
                self.assertIn(broken.name, [names_of(one)[0] for one in hanging])
                told["Broken"] = told.get("Broken", 0) + 1
            except TongueError:
                self.assertRaises(TongueError, judged, Scope(libs.scope("lib").all_items[:at]), new)
                told["refused"] = told.get("refused", 0) + 1
            else:
                self.assertEqual(anew, tuple([names_of(one)[0] for one in hanging]))
                told["anew"] = told.get("anew", 0) + len(anew)
                self.whole(libs)
                # All other papers hold as they stand, and nothing is let by that would not be, put anew.
                again = Libraries()
                again.begin("lib")
                for one in libs.typed("lib"):
                    again.put("lib", one)
                self.assertTrue(again == libs)
        for word in ("Broken", "refused", "anew"):
            self.assertGreater(told[word], 5)

    def test_holes_filled(self):
        chance = random.Random(6)
        done = 0
        while done < 60:
            libs = library("nat", "bool", "add", "kindby")
            body = chance.choice([t("(call add @0 (S @0))"), t("(call add (call add 0 @0) 1)"), t("(fun run N (call add @0 @1))")])
            result = "(to run N N)" if body[0] == "fun" else "N"
            term = body
            for name in ("a", "b"):
                term = with_part(term, chance.choice(spots_of(term)), ("hole", name))
            thing = made("define f -", "take run N", "result " + result, "row *", "body 0")
            thing = ("lot", (thing[1][0][:4] + (((thing[1][0][4][0][0], term),),),))
            try:
                libs.put("lib", thing)
            except TongueError:
                continue
            done = done + 1
            self.whole(libs)
            for name, around, manner, wish in libs.holes("lib"):
                for text in ("0", "@0", "(call add @0 0)", "Y", "(fun run N @0)", "N"):
                    copy_of = library("nat", "bool", "add", "kindby")
                    copy_of.put("lib", thing)
                    try:
                        copy_of.fill("lib", name, t(text))
                    except TongueError:
                        continue
                    self.whole(copy_of)


if __name__ == "__main__":
    unittest.main()
