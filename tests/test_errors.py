import unittest

from runsums import errors

# Each error: the class in brackets, and its fields in their order.
ERRORS = {
    "NoText": (ValueError, ["at"]),
    "NoProgram": (ValueError, ["word", "at"]),
    "NoWord": (ValueError, ["word"]),
    "Wrong": (ValueError, ["at"]),
    "NoOne": (ValueError, ["at"]),
    "NoRow": (ValueError, []),
    "NoNumber": (KeyError, ["name"]),
    "Unknown": (KeyError, ["name"]),
    "NoBegin": (IndexError, ["many"]),
    "NoAnswer": (LookupError, ["word"]),
    "NoHeld": (LookupError, []),
    "TooGreat": (OverflowError, ["most"]),
}

VALUES = ["stuck", "", "two\nlines", 0, -1, 7, 10 ** 500]


class TestErrors(unittest.TestCase):
    def test_there_are_twelve(self):
        found = [thing for thing in vars(errors).values() if isinstance(thing, type)]
        self.assertEqual(sorted(one.__name__ for one in found), sorted(ERRORS))

    def test_each_stands_right_under_its_class(self):
        for name, (base, _) in ERRORS.items():
            with self.subTest(name):
                self.assertEqual(getattr(errors, name).__bases__, (base,))
                self.assertEqual(getattr(errors, name).__module__, "runsums.errors")

    def test_none_is_another_one(self):
        for name in ERRORS:
            for other in ERRORS:
                if name != other:
                    with self.subTest(name=name, other=other):
                        self.assertFalse(issubclass(getattr(errors, name), getattr(errors, other)))

    def test_made_by_places(self):
        for name, (_, fields) in ERRORS.items():
            for value in VALUES:
                told = [value, 12][:len(fields)]
                made = getattr(errors, name)(*told)
                with self.subTest(name=name, value=value):
                    self.assertEqual([getattr(made, field) for field in fields], told)

    def test_made_by_names(self):
        for name, (_, fields) in ERRORS.items():
            for value in VALUES:
                told = dict(zip(reversed(fields), [value, "word"]))
                made = getattr(errors, name)(**told)
                with self.subTest(name=name, value=value):
                    self.assertEqual({field: getattr(made, field) for field in fields}, told)

    def test_each_needs_what_it_is_told(self):
        for name, (_, fields) in ERRORS.items():
            if fields:
                with self.subTest(name):
                    with self.assertRaises(TypeError):
                        getattr(errors, name)()
                    with self.assertRaises(TypeError):
                        getattr(errors, name)(*[1] * (len(fields) + 1))

    def test_each_is_caught_by_its_base(self):
        for name, (base, fields) in ERRORS.items():
            with self.subTest(name):
                with self.assertRaises(base):
                    raise getattr(errors, name)(*[1] * len(fields))


if __name__ == "__main__":
    unittest.main()
