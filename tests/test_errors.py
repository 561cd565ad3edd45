"""Points 50 and 51: the errors."""

import unittest

from rodwebs import errors

LISTED = {
    "DivisionByZero": (), "BadText": ("text",), "BadCount": ("count",), "BadSizes": ("given", "wanted"),
    "BadPlace": ("place",), "TooLarge": ("size",), "Mismatch": (), "Hidden": ("numbers",), "Barred": ("weights",),
    "BadForm": ("numbers",), "BadKind": ("kind",), "BadStrength": ("strength",), "BadLength": ("length",),
    "BadTwist": ("twist",), "BadOrder": (), "BadLink": ("index",), "NoJoint": ("joint",), "NoRod": ("rod",),
    "NoEar": ("ear",), "NotLevel": (), "NotAWeb": (), "NoMerge": ("joint",), "NoTwin": ("first", "second"),
    "NoSlide": ("stub", "rod"), "Full": (), "NothingToUndo": (), "NothingToRedo": (), "Unkept": ("state", "knocks"),
    "NotAlong": ("state", "knocks"), "TooFew": ("count",), "Loud": ("index",), "NoEcho": ("index",),
    "BadPane": ("index",), "BadEnd": ("end",), "BadBottom": (), "NoAnswer": (), "Endless": (),
    "Unalike": ("at", "heard", "knocked"), "BadDiscount": ("value",), "NoDeed": ("name",), "Stopped": ("at",),
}


class Errors(unittest.TestCase):
    def test_base(self):
        self.assertEqual(errors.WebError.__bases__, (ValueError,))

    def test_each_derives_directly(self):
        for name in LISTED:
            self.assertEqual(getattr(errors, name).__bases__, (errors.WebError,), name)

    def test_each_is_defined_there(self):
        for name in ["WebError", *LISTED]:
            self.assertEqual(getattr(errors, name).__module__, "rodwebs.errors")

    def test_each_keeps_what_it_is_given(self):
        for name, attributes in LISTED.items():
            given = [object() for _ in attributes]
            error = getattr(errors, name)(*given)
            for attribute, value in zip(attributes, given):
                self.assertIs(getattr(error, attribute), value, (name, attribute))

    def test_arguments_may_be_named(self):
        for name, attributes in LISTED.items():
            named = {attribute: [attribute] for attribute in attributes}
            error = getattr(errors, name)(**named)
            for attribute in attributes:
                self.assertIs(getattr(error, attribute), named[attribute])

    def test_no_other_number_of_arguments(self):
        for name, attributes in LISTED.items():
            if attributes:
                with self.assertRaises(TypeError):
                    getattr(errors, name)()

    def test_raised_and_caught(self):
        for name, attributes in LISTED.items():
            with self.assertRaises(errors.WebError):
                raise getattr(errors, name)(*attributes)

    def test_all_are_listed(self):
        found = {name for name in vars(errors) if isinstance(getattr(errors, name), type)}
        self.assertEqual(found, {"WebError", *LISTED})


if __name__ == "__main__":
    unittest.main()
