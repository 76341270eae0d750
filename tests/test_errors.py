import unittest

from closereckoned import errors
from tests.helper import Case

FAMILIES = {
    "PaperError": {"InvalidPaper": ("word", "at")},
    "GroundError": {"NotUsable": ("word", "at"), "Unfit": ("lot",), "Divided": ("lot",)},
    "ReadError": {"Unread": ("piece",), "Noticed": ("piece",)},
    "LiveError": {"InvalidEvent": ("event", "reason"), "NothingToUndo": ("steps",)},
    "TextError": {"InvalidText": ("line", "field"), "InvalidRow": ("row",)},
}


class Errors(Case):

    def test_families(self):
        self.assertEqual(errors.ReckonError.__bases__, (ValueError,))
        for family, members in FAMILIES.items():
            self.assertEqual(getattr(errors, family).__bases__, (errors.ReckonError,))
            for name in members:
                self.assertEqual(getattr(errors, name).__bases__, (getattr(errors, family),))

    def test_fields_are_kept(self):
        for members in FAMILIES.values():
            for name, fields in members.items():
                values = [object() for _ in fields]
                by_place = getattr(errors, name)(*values)
                by_name = getattr(errors, name)(**dict(zip(fields, values)))
                for error in (by_place, by_name):
                    self.assertEqual(sorted(vars(error)), sorted(fields))
                    for field, value in zip(fields, values):
                        self.assertIs(getattr(error, field), value)

    def test_fields_are_just_these(self):
        for members in FAMILIES.values():
            for name, fields in members.items():
                with self.assertRaises(TypeError):
                    getattr(errors, name)(*fields, 1)
                with self.assertRaises(TypeError):
                    getattr(errors, name)(*fields[1:])

    def test_fields_are_any_values(self):
        held = [1, (True, None)]
        self.assertIs(errors.NotUsable(held, -1).word, held)
        self.assertIs(errors.InvalidEvent(held, "shape").event, held)


if __name__ == "__main__":
    unittest.main()
