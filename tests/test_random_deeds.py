"""Many deeds, let by and refused: papers hold, what is refused changes nothing, the deeds that stand tell all."""

import unittest

from kindsbyworth.errors import Absent, TongueError
from kindsbyworth.items import is_item, names_of
from kindsbyworth.libraries import Libraries
from kindsbyworth.terms import spots_of, with_nodes, with_part
from tests.library import ORDER, item, t
from tests.test_changed_items import Changes
from tests.test_libraries import Libs, seen

ITEMS = [item(key) for key in ORDER]
WORDS = ("begin", "put", "put", "put", "put", "put", "put", "put", "hole", "hole", "change", "change", "out", "fill", "fill", "picture", "back")
FILLINGS = [t(text) for text in ("0", "@0", "@1", "@2", "N", "Y", "(call add @0 @0)", "(S @0)", "?z", "(S ?y)")]


class Deeds:
    """Deeds by chance, upon libraries as they are."""

    def __init__(self, seed):
        self.changes = Changes(seed)
        self.chance = self.changes.chance

    def far(self, libs, thing):
        """The item with some near names made those of a picture that is there."""
        pictures = [(lib, at + 1) for lib in libs.libraries() for at in range(libs.pictures(lib))]
        if not pictures:
            return thing
        lib, number = self.chance.choice(pictures)
        there = [name.split(".")[2] for one in libs.picture_of(lib, number) for name in names_of(one)]
        named = [name for name in there if name not in names_of(thing) and self.chance.random() < 0.8]

        def changed(part):
            known = part[0] in ("family", "shape", "call") and part[1] in named
            return (part[0], f"{lib}.{number}.{part[1]}") + part[2:] if known else part

        def term(one):
            return with_nodes(one, changed)

        def telescope(pairs):
            return tuple((mark, term(kind)) for mark, kind in pairs)

        if thing[0] == "family":
            return thing[:2] + (telescope(thing[2]), telescope(thing[3]), thing[4], tuple(
                (name, telescope(pairs), tuple(term(end) for end in ends)) for name, pairs, ends in thing[5]))
        return ("lot", tuple((name, telescope(pairs), term(result), less, tuple((patterns, term(body)) for patterns, body in rows))
                             for name, pairs, result, less, rows in thing[1]))

    def holed(self, thing):
        """The lot with a hole in some place."""
        if thing[0] != "lot" or not thing[1][0][4]:
            return thing
        first = thing[1][0]
        at = self.chance.randrange(len(first[4]))
        patterns, body = first[4][at]
        body = with_part(body, self.chance.choice(spots_of(body)), ("hole", self.chance.choice("abcdefgh")))
        return ("lot", (first[:4] + (first[4][:at] + ((patterns, body),) + first[4][at + 1:],),) + thing[1][1:])

    def deed(self, libs, many):
        """A deed as (name, arguments)."""
        word = self.chance.choice(WORDS) if len(libs) else "begin"
        if word == "begin":
            return "begin", (self.chance.choice(("aa", "bb", "cc")),)
        if word == "back":
            return "back", (self.chance.randrange(max(0, many - 3), many + 2),)
        lib = self.chance.choice(libs.libraries())
        typed = libs.typed(lib)
        if word in ("put", "hole"):
            have = [name for one in typed for name in names_of(one)]
            thing = self.chance.choice([one for one in ITEMS if names_of(one)[0] not in have][:3] or ITEMS)
            return "put", (lib, self.holed(thing) if word == "hole" else self.mixed(libs, thing))
        if word == "fill":
            holes = [row[0] for row in libs.holes(lib)] or ["none"]
            return "fill", (lib, self.chance.choice(holes), self.chance.choice(FILLINGS))
        if word == "picture" or not typed:
            return "picture", (lib,)
        thing = self.chance.choice(typed)
        if word == "out":
            return "out", (lib, self.chance.choice(names_of(thing)))
        return "change", (lib, self.mixed(libs, thing))

    def mixed(self, libs, thing):
        """The item, or one of the like."""
        if self.chance.random() < 0.4:
            thing = self.changes.item(thing)
        return self.far(libs, thing) if self.chance.random() < 0.4 else thing


class DeedsTest(Libs):
    def test_deeds(self):
        told = {}
        for seed in range(80):
            deeds, libs, standing = Deeds(seed), Libraries(), []
            for _ in range(60):
                name, arguments = deeds.deed(libs, len(standing))
                if name in ("put", "change") and not is_item(arguments[1]):
                    continue
                before = seen(libs)
                try:
                    getattr(libs, name)(*arguments)
                except (TongueError, Absent):
                    self.assertEqual(seen(libs), before)
                    told[name, "refused"] = True
                    continue
                told[name, "done"] = True
                self.whole(libs)
                if name == "back":
                    del standing[arguments[0]:]
                else:
                    standing.append((name, arguments))
            again = Libraries()
            for name, arguments in standing:
                getattr(again, name)(*arguments)
            self.assertTrue(again == libs)
            self.assertEqual(seen(again), seen(libs))
        for name in ("begin", "put", "change", "out", "fill", "picture", "back"):
            for word in ("done", "refused"):
                self.assertIn((name, word), told)


if __name__ == "__main__":
    unittest.main()
