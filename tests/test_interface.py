"""The names and arguments that the interface lists exist as written."""

import importlib
import inspect
import unittest

FUNCTIONS = {
    "kinds": {"is_whole": ["thing"], "is_content": ["thing"], "is_place": ["thing"], "is_name": ["thing"]},
    "spans": {
        "is_normal": ["thing"], "spans_of": ["stretches"], "either": ["one", "other"], "both": ["one", "other"],
        "less": ["one", "other"], "gaps": ["one", "size"], "many_in": ["one"], "has_place": ["one", "place"],
    },
}
REFUSALS = {
    "Wrong": ["at"], "NoRoom": [], "TooFull": [], "NoPlace": ["place"], "NoGrain": ["grain"], "NoFile": ["name"],
    "NoLabel": ["label"], "There": ["name"], "TooMany": ["most"], "Unlike": [], "NoParcel": ["at"], "NoText": [],
    "NoLog": ["at"], "NoRow": [],
}


class TestInterface(unittest.TestCase):
    def test_functions(self):
        for module, functions in FUNCTIONS.items():
            for name, arguments in functions.items():
                function = getattr(importlib.import_module("lentloft." + module), name)
                self.assertEqual(list(inspect.signature(function).parameters), arguments, name)

    def test_refusals(self):
        errors = importlib.import_module("lentloft.errors")
        self.assertEqual(errors.LoftError.__bases__, (ValueError,))
        for name, arguments in REFUSALS.items():
            refusal = getattr(errors, name)(*arguments)
            self.assertEqual([getattr(refusal, field) for field in arguments], arguments, name)


if __name__ == "__main__":
    unittest.main()
