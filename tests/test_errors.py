import unittest

from kindsbyworth import errors, limits

# Each class, the one straight above it, and the fields that it is made with.
CLASSES = (
    ("TongueError", ValueError, None),
    ("NoText", "TongueError", None),
    ("NoItem", "TongueError", None),
    ("NoTerm", "TongueError", None),
    ("Taken", "TongueError", ("name",)),
    ("Unjudged", "TongueError", ("spot", "word")),
    ("Holds", "TongueError", ("shape", "k")),
    ("NoRow", "TongueError", ("row", "word")),
    ("NoEnd", "TongueError", ("name", "row")),
    ("Ring", "TongueError", ("names",)),
    ("Lacks", "TongueError", ("name", "arguments")),
    ("Unclear", "TongueError", ("name",)),
    ("Idle", "TongueError", ("name", "row")),
    ("Broken", "TongueError", ("name",)),
    ("Holed", "TongueError", ("name",)),
    ("NoBack", "TongueError", ("many",)),
    ("TooMuch", "TongueError", None),
    ("TooLong", "TooMuch", ("most",)),
    ("TooGreat", "TooMuch", ("size",)),
    ("Absent", KeyError, None),
    ("NoName", "Absent", ("name",)),
    ("NoSpot", "Absent", ("spot",)),
    ("NoLibrary", "Absent", ("lib",)),
    ("NoHole", "Absent", ("hole",)),
    ("NoPicture", "Absent", ("n",)),
)

HANDED = ("word", 3, (1, ("at", 0)), None, [{}], {"a": []})


class ErrorsTest(unittest.TestCase):
    def test_each_is_straight_under_its_own(self):
        for name, above, _ in CLASSES:
            with self.subTest(name=name):
                made = getattr(errors, name)
                wanted = getattr(errors, above) if isinstance(above, str) else above
                self.assertEqual(made.__bases__, (wanted,))
                self.assertEqual(made.__module__, "kindsbyworth.errors")

    def test_fields_by_place_and_by_name(self):
        for name, _, fields in CLASSES:
            for first in HANDED if fields else ():
                with self.subTest(name=name, first=first):
                    handed = (first, "other")[:len(fields)]
                    made = getattr(errors, name)
                    for error in (made(*handed), made(**dict(zip(fields, handed)))):
                        self.assertEqual(tuple(getattr(error, field) for field in fields), handed)
                        self.assertIs(getattr(error, fields[0]), first)

    def test_as_many_fields_as_are_told(self):
        for name, _, fields in CLASSES:
            if fields:
                made = getattr(errors, name)
                with self.subTest(name=name):
                    self.assertEqual(set(vars(made(*fields))), set(fields))
                    self.assertRaises(TypeError, made)
                    self.assertRaises(TypeError, made, *fields, 0)

    def test_made_with_a_text(self):
        for name in ("NoText", "NoItem", "NoTerm"):
            with self.assertRaises(errors.TongueError) as caught:
                raise getattr(errors, name)("why")
            self.assertEqual(str(caught.exception), "why")

    def test_absent_is_no_refusal_of_the_tongue(self):
        self.assertFalse(issubclass(errors.Absent, errors.TongueError))
        with self.assertRaises(KeyError):
            raise errors.NoName("a")


class LimitsTest(unittest.TestCase):
    def test_the_three_numbers(self):
        self.assertEqual((limits.MOST, limits.GREATEST, limits.DEEPEST), (2000, 400, 40))


if __name__ == "__main__":
    unittest.main()
