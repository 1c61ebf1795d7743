import unittest

from traitmere import errors

TRAIT = {
    "Taken": ("name",), "Full": (), "Forked": ("one", "other"), "Twice": ("room",), "Strange": ("room",),
    "Wider": ("room",), "NoFit": ("room",), "Ring": ("name",), "Used": ("name",), "Unfit": (), "BadName": ("name",),
    "BadNodes": ("at",), "BadText": (), "BadPage": ("row",), "BadParts": (), "BadRow": (), "BadMost": ("most",),
    "NoRest": (),
}
MISSING = {
    "NoKind": ("name",), "NoMust": ("name",), "NoWord": ("name",), "NoRule": ("name",), "NoRoom": ("room",),
    "NoBox": ("number",), "NoMark": ("number",), "NoMeaning": (), "NothingLeft": (),
}
NUMBERS = ("at", "row", "most", "number")


def all_classes():
    return [(name, TRAIT[name], errors.TraitError) for name in TRAIT] + [
        (name, MISSING[name], errors.Missing) for name in MISSING]


class TestErrors(unittest.TestCase):
    def test_heads(self):
        self.assertEqual(errors.TraitError.__bases__, (ValueError,))
        self.assertEqual(errors.Missing.__bases__, (LookupError,))

    def test_each_stands_straight_under_its_head(self):
        for name, fields, head in all_classes():
            with self.subTest(name=name):
                self.assertEqual(getattr(errors, name).__bases__, (head,))
                self.assertEqual(getattr(errors, name).__name__, name)

    def test_there_are_no_others(self):
        here = [name for name, thing in vars(errors).items() if isinstance(thing, type)]
        self.assertEqual(sorted(here), sorted([*TRAIT, *MISSING, "TraitError", "Missing"]))

    def test_fields_and_called(self):
        for name, fields, head in all_classes():
            with self.subTest(name=name):
                values = [7 + at if field in NUMBERS else f"x{at}" for at, field in enumerate(fields)]
                made = getattr(errors, name)(*values)
                self.assertEqual(made.called, name)
                self.assertEqual(vars(made), {"called": name, **dict(zip(fields, values))})

    def test_text_can_be_told_whatever_the_number(self):
        for name, fields, head in all_classes():
            with self.subTest(name=name):
                values = [10 ** 5000 if field in NUMBERS else "x" for field in fields]
                self.assertIn(name, str(getattr(errors, name)(*values)))

    def test_raised_and_caught_under_the_heads(self):
        for name, fields, head in all_classes():
            with self.subTest(name=name):
                with self.assertRaises(head):
                    raise getattr(errors, name)(*["x" for field in fields])


if __name__ == "__main__":
    unittest.main()
