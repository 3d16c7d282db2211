"""The error classes: their names, what they are, what they carry."""

import inspect
import unittest

from joinlags import errors

CLASSES = {
    "NoWorker": (LookupError, "worker"), "NoQueue": (LookupError, "queue"),
    "NoBlock": (LookupError, "block"), "NoDoor": (LookupError, "place"),
    "NoStep": (ValueError, "place"), "NoFit": (ValueError, None), "NoTable": (ValueError, None),
    "NoPart": (ValueError, None), "BadQueue": (ValueError, "queue"), "BadName": (ValueError, "name"),
    "BadLine": (ValueError, "number"), "Silent": (RuntimeError, "queue"), "Full": (RuntimeError, "queue"),
    "Dead": (RuntimeError, "worker"), "NothingDone": (RuntimeError, None),
}


class ErrorsTest(unittest.TestCase):

    def test_all_are_there_and_no_others(self):
        found = [name for name, value in vars(errors).items() if inspect.isclass(value)]
        self.assertEqual(sorted(found), sorted(CLASSES))

    def test_each_is_directly_under_its_class(self):
        for name, (base, _) in CLASSES.items():
            self.assertEqual(getattr(errors, name).__bases__, (base,), name)
            self.assertEqual(getattr(errors, name).__module__, "joinlags.errors")

    def test_attributes(self):
        for name, (_, attribute) in CLASSES.items():
            made = getattr(errors, name)
            if attribute is None:
                self.assertEqual(vars(made()), {}, name)
                continue
            for value in ("x", 0, 7):
                self.assertEqual(vars(made(value)), {attribute: value}, name)
                self.assertEqual(vars(made(**{attribute: value})), {attribute: value}, name)
            with self.assertRaises(TypeError):
                made()

    def test_they_can_be_raised_and_caught(self):
        for name, (base, attribute) in CLASSES.items():
            made = getattr(errors, name)
            with self.assertRaises(base) as caught:
                raise made() if attribute is None else made("x")
            self.assertIs(type(caught.exception), made)


if __name__ == "__main__":
    unittest.main()
