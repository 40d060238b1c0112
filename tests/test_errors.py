import unittest

from tubewords import errors

ATTRIBUTES = {
    "NotJoined": ("room", "other"),
    "NotClosed": ("walk",),
    "NoMove": ("number",),
    "TooMany": ("what",),
    "TooGreat": ("what",),
    "NotInOne": ("room",),
    "Stays": ("walk",),
    "OutOfRange": ("value",),
    "BadText": ("place",),
    "NameTaken": ("name",),
    "UnknownName": ("name",),
    "InUse": ("tie", "name"),
    "NothingToUndo": (),
    "NothingToRedo": (),
}


class ErrorsTest(unittest.TestCase):
    def test_web_error_stands_under_value_error(self):
        self.assertEqual(errors.WebError.__bases__, (ValueError,))

    def test_all_others_stand_directly_under_web_error(self):
        for name in ATTRIBUTES:
            with self.subTest(name=name):
                self.assertEqual(getattr(errors, name).__bases__, (errors.WebError,))
                self.assertEqual(getattr(errors, name).__module__, "tubewords.errors")

    def test_none_is_caught_as_another_one(self):
        for name in ATTRIBUTES:
            for other in ATTRIBUTES:
                if name != other:
                    self.assertFalse(issubclass(getattr(errors, name), getattr(errors, other)), (name, other))

    def test_arguments_are_kept_as_attributes(self):
        for name, attributes in ATTRIBUTES.items():
            for values in ((3, "four"), ((0, 1, ()), None), ("what", (1, 2))):
                with self.subTest(name=name, values=values):
                    error = getattr(errors, name)(*values[:len(attributes)])
                    for attribute, value in zip(attributes, values):
                        self.assertEqual(getattr(error, attribute), value)

    def test_they_can_be_raised_and_caught(self):
        for name, attributes in ATTRIBUTES.items():
            with self.subTest(name=name), self.assertRaises(errors.WebError):
                raise getattr(errors, name)(*attributes)
            with self.subTest(name=name), self.assertRaises(ValueError):
                raise getattr(errors, name)(*attributes)
