import copy
import unittest

from kindsbyworth.errors import Absent, NoItem, NoName, Taken, TongueError
from kindsbyworth.itemtexts import read_item
from kindsbyworth.sameness import are_same
from kindsbyworth.scopes import Scope
from tests.samples import ADD, EMPTY, GONE_LOT, ITEMS, LISTS, MIXED, NAT, NATS, ODD_THINGS, TERMS, VECS, ZERO

W0 = ("world", 0)
OPEN_ITEM = ("open", "wish", (("run", NAT), ("gone", W0)), NAT)
HOLED = ("lot", (("holed", (), NAT, None, (((), ("hole", "wish")),)),))


def lot_of(*names):
    return ("lot", tuple((name, (), NAT, None, ()) for name in names))


def family_of_name(name):
    return ("family", name, (), (), 0, ())


class ScopeTest(unittest.TestCase):
    def test_field_and_len(self):
        self.assertEqual((Scope().all_items, len(Scope())), ((), 0))
        self.assertEqual((Scope((NATS,)).all_items, len(Scope((NATS,)))), ((NATS,), 1))
        scope = Scope(ITEMS)
        self.assertEqual(scope.all_items, ITEMS)
        self.assertIs(type(scope.all_items), tuple)
        self.assertEqual(len(scope), 11)
        self.assertEqual(len(Scope((lot_of("a", "b", "c"), family_of_name("d"), OPEN_ITEM))), 5)
        self.assertEqual(Scope(items=ITEMS).all_items, ITEMS)

    def test_equal(self):
        self.assertTrue(Scope() == Scope(()))
        self.assertFalse(Scope() != Scope(()))
        self.assertTrue(Scope(ITEMS) == Scope(copy.deepcopy(ITEMS)))
        self.assertTrue(Scope((NATS, ADD)) == Scope((NATS,)).with_item(ADD))
        self.assertTrue(Scope((NATS, ADD)) != Scope((ADD, NATS)))
        self.assertFalse(Scope((NATS, ADD)) == Scope((ADD, NATS)))
        for other in (Scope(), Scope((NATS,)), Scope((NATS, ADD, EMPTY)), Scope((NATS, EMPTY)), Scope((EMPTY, ADD))):
            self.assertFalse(Scope((NATS, ADD)) == other)
            self.assertFalse(other == Scope((NATS, ADD)))
        one = ("lot", (("f", (("run", NAT),), NAT, None, ()),))
        less = ("lot", (("f", (("run", NAT),), NAT, 0, ()),))
        gone = ("lot", (("f", (("gone", NAT),), NAT, None, ()),))
        self.assertFalse(Scope((one,)) == Scope((less,)))
        self.assertFalse(Scope((one,)) == Scope((gone,)))
        self.assertFalse(Scope((family_of_name("a"),)) == Scope((lot_of("a"),)))

    def test_equal_to_nothing_else(self):
        for thing in ODD_THINGS + ((NATS,), NATS):
            self.assertFalse(Scope((NATS,)) == thing)
            self.assertTrue(Scope((NATS,)) != thing)
            self.assertFalse(Scope() == thing)

    def test_equal_of_deep_patterns(self):
        def text(inner):
            return "define f 0\ntake run @0\nresult @0\nrow " + "(s " * 3000 + inner + ")" * 3000 + "\nbody @0"

        one, same, other = [Scope((read_item(text(inner)),)) for inner in "**-"]
        self.assertTrue(one == same)
        self.assertFalse(one == other)

    def test_are_same(self):
        for one in ((), "", "a", "ab", 0, 1, None, ("a",), ("a", "b"), ((),), (("a", "b"),), ("ab",), (0, None)):
            for other in ((), "", "a", "ab", 0, 1, None, ("a",), ("a", "b"), ((),), (("a", "b"),), ("ab",),
                          (0, None)):
                self.assertIs(are_same(one, other), one == other)

    def test_item_of(self):
        scope = Scope(ITEMS + (OPEN_ITEM,))
        for name, item in (("nat", NATS), ("list", LISTS), ("vec", VECS), ("add", ADD), ("head", MIXED),
                           ("base.2.two", MIXED), ("pair", MIXED), ("lone", GONE_LOT), ("wish", OPEN_ITEM)):
            self.assertEqual(scope.item_of(name), item)
        self.assertEqual(scope.item_of(name="nat"), NATS)

    def test_no_name(self):
        scope = Scope(ITEMS + (OPEN_ITEM,))
        absent = ("two", "zero", "next", "first", "base.1.two", "nat\n", "", "cons", 0, True, None, ["nat"], ("nat",),
                  {"nat": 1}, {}, NAT, NATS)
        for name in absent + ODD_THINGS:
            for asked in (scope, Scope()):
                with self.assertRaises(NoName) as caught:
                    asked.item_of(name)
                self.assertIs(caught.exception.name, name)
                self.assertIsInstance(caught.exception, Absent)
                self.assertIsInstance(caught.exception, KeyError)

    def test_with_item(self):
        first = Scope((NATS,))
        second = first.with_item(ADD)
        third = first.with_item(item=EMPTY)
        self.assertEqual((first.all_items, len(first)), ((NATS,), 1))
        self.assertEqual((second.all_items, len(second)), ((NATS, ADD), 2))
        self.assertEqual((third.all_items, len(third)), ((NATS, EMPTY), 2))
        self.assertRaises(NoName, first.item_of, "add")
        self.assertRaises(NoName, third.item_of, "add")
        self.assertEqual(second.item_of("add"), ADD)
        self.assertEqual(first.with_item(OPEN_ITEM).item_of("wish"), OPEN_ITEM)
        self.assertEqual(Scope().with_item(NATS), first)
        self.assertRaises(Taken, second.with_item, NATS)
        self.assertEqual((second.all_items, len(second)), ((NATS, ADD), 2))

    def test_no_item(self):
        for thing in ODD_THINGS + TERMS + (None, [NATS], {"nat": NATS}, NATS, ADD, "nat", 0, True):
            if thing != ():
                with self.assertRaises(NoItem) as caught:
                    Scope(thing)
                self.assertIsInstance(caught.exception, TongueError)
            for refused in (lambda: Scope((thing,)), lambda: Scope((NATS, thing)), lambda: Scope((thing, NATS))):
                if thing not in (NATS, ADD):
                    self.assertRaises(NoItem, refused)
            if thing not in (NATS, ADD):
                self.assertRaises(NoItem, Scope((VECS,)).with_item, thing)
        self.assertRaises(NoItem, Scope().with_item, (NATS,))
        self.assertRaises(NoItem, Scope().with_item, Scope())
        self.assertRaises(NoItem, Scope, Scope())

    def taken(self, name, *items):
        with self.assertRaises(Taken) as caught:
            Scope(items)
        self.assertEqual(caught.exception.name, name)
        self.assertIsInstance(caught.exception, TongueError)
        with self.assertRaises(Taken) as caught:
            Scope(items[:-1]).with_item(items[-1])
        self.assertEqual(caught.exception.name, name)

    def test_taken(self):
        self.taken("nat", NATS, NATS)
        self.taken("nat", NATS, ADD, family_of_name("nat"))
        self.taken("nat", NATS, lot_of("a", "nat", "b"))
        self.taken("b", lot_of("a", "b"), lot_of("b", "a"))
        self.taken("a", lot_of("b", "a"), lot_of("c", "a", "b"))
        self.taken("a.1.b", lot_of("a.1.b"), family_of_name("a.1.b"))
        self.taken("wish", OPEN_ITEM, OPEN_ITEM)
        self.taken("wish", OPEN_ITEM, family_of_name("wish"))
        self.taken("wish", lot_of("wish"), NATS, OPEN_ITEM)

    def test_the_first_that_was_there(self):
        for items, name in (((NATS, ADD, lot_of("add"), NATS), "add"), ((NATS, ADD, NATS, lot_of("add")), "nat")):
            with self.assertRaises(Taken) as caught:
                Scope(items)
            self.assertEqual(caught.exception.name, name)

    def test_not_taken(self):
        self.assertEqual(len(Scope((family_of_name("a"), family_of_name("a.1.a"), family_of_name("a.2.a")))), 3)
        self.assertEqual(len(Scope((NATS, family_of_name("zero"), family_of_name("next")))), 3)
        self.assertEqual(len(Scope((OPEN_ITEM, HOLED))), 2)
        self.assertEqual(len(Scope((HOLED, HOLED[:1] + ((("other",) + HOLED[1][0][1:],),)))), 2)

    def test_no_item_goes_ahead_of_taken(self):
        for amiss in (None, [], NATS + (0,), list(NATS), ("lot", ()), ("open", "a.1.b", (), NAT)):
            self.assertRaises(NoItem, Scope, (NATS, NATS, amiss))
            self.assertRaises(NoItem, Scope, (amiss, NATS, NATS))
        self.assertRaises(NoItem, Scope, [NATS, NATS])
        self.assertRaises(NoItem, Scope((NATS,)).with_item, NATS + (0,))
        self.assertRaises(NoItem, Scope((NATS,)).with_item, ("family", "nat", (), (), 9, ()))

    def test_open_items(self):
        for right in (OPEN_ITEM, ("open", "a", (), ZERO), ("open", "abcdefgh", (("run", ("at", 9)),), ("at", 4))):
            self.assertEqual(Scope((right,)).all_items, (right,))
        name, telescope, result = OPEN_ITEM[1:]
        hole = ("hole", "h")
        for amiss in (("open",), ("open", name), ("open", name, telescope), OPEN_ITEM + ((),), list(OPEN_ITEM),
                      ("Open", name, telescope, result), ("open", "a.1.b", telescope, result),
                      ("open", "", telescope, result), ("open", "abcdefghi", telescope, result),
                      ("open", ["a"], telescope, result), ("open", None, telescope, result),
                      ("open", name, list(telescope), result), ("open", name, None, result),
                      ("open", name, (("run", hole),), result), ("open", name, telescope, hole),
                      ("open", name, (("none", NAT),), result), ("open", name, (("run",),), result),
                      ("open", name, (("run", None),), result), ("open", name, telescope, None),
                      ("open", name, telescope, list(NAT)), ("open", name, telescope, ("world", 10)),
                      ("open", name, telescope, ("family", "f", (hole,)))):
            self.assertRaises(NoItem, Scope, (amiss,))
            self.assertRaises(NoItem, Scope().with_item, amiss)

    def test_what_is_handed_in_stays(self):
        handed = [[NATS], {"a": [NATS]}, ("family", ["nat"])]
        kept = copy.deepcopy(handed)
        for thing in handed:
            self.assertRaises(NoItem, Scope, thing)
            self.assertRaises(NoItem, Scope().with_item, thing)
            self.assertRaises(NoName, Scope((NATS,)).item_of, thing)
        self.assertEqual(handed, kept)


if __name__ == "__main__":
    unittest.main()
