"""The names and arguments that the interface lists exist as written."""

import importlib
import inspect
import unittest

FUNCTIONS = {
    "kinds": {"is_whole": ["thing"], "is_content": ["thing"], "is_place": ["thing"], "is_name": ["thing"]},
    "spans": {
        "is_normal": ["thing"], "spans_of": ["stretches"], "either": ["one", "other"], "both": ["one", "other"],
        "less": ["one", "other"], "gaps": ["one", "size"], "many_in": ["one"], "has_place": ["one", "place"],
    },
    "lending": {
        "lend": ["source", "at", "many", "target", "to"], "copied": ["file"], "shared": ["one", "other"],
        "differs": ["one", "other"],
    },
    "owing": {
        "owners": ["loft"], "holders": ["loft", "grain"], "owes": ["loft", "rule"], "common": ["loft"],
        "freed_by": ["loft", "some"],
    },
    "merging": {"likes": ["loft"], "merge": ["loft", "most"], "part": ["loft", "name"]},
    "parcels": {"parcel": ["loft", "base", "label"], "lay": ["loft", "base", "rows"], "contents_in": ["rows"]},
    "deeds": {"do_deed": ["loft", "deed"], "show_deed": ["deed"], "read_deed": ["text"]},
    "logs": {"come_up": ["room", "text"]},
}
CLASSES = {
    ("pool", "Pool"): {
        "__init__": ["room"], "lay": ["content"], "hold": ["grain"], "let_go": ["grain"], "content_of": ["grain"],
        "holds": ["grain"], "kept": [], "left": [],
    },
    ("files", "File"): {
        "__init__": ["pool"], "pool": [], "size": [], "resize": ["size"], "make_holes": ["at", "many"],
        "write": ["at", "contents"], "take": ["at", "grains"], "read": ["at", "many"], "grain_at": ["place"],
        "held": [], "pieces": [],
    },
    ("loft", "Loft"): {
        "__init__": ["room"], "names": ["where"], "labels": [], "size": ["where", "name"],
        "read": ["where", "name", "at", "many"], "held": ["where", "name"], "pieces": ["where", "name"],
        "make": ["name"], "drop": ["name"], "resize": ["name", "size"], "write": ["name", "at", "contents"],
        "hole": ["name", "at", "many"], "lend": ["where", "name", "at", "many", "target", "to"],
        "twin": ["where", "name", "new"], "freeze": ["label"], "forget": ["label"], "back": ["label"],
        "exchange": ["grain", "other"], "kept": [], "left": [], "content_of": ["grain"], "holds": ["grain"],
        "copied": [],
    },
    ("logs", "Keeper"): {
        "__init__": ["room"], "do": ["deed"], "do_together": ["deeds"], "log": [], "kept_loft": [], "loft": [],
    },
    ("desk", "Desk"): {"__init__": [], "say": ["text"]},
}
REFUSALS = {
    "Wrong": ["at"], "NoRoom": [], "TooFull": [], "NoPlace": ["place"], "NoGrain": ["grain"], "NoFile": ["name"],
    "NoLabel": ["label"], "There": ["name"], "TooMany": ["most"], "Unlike": [], "NoParcel": ["at"], "NoText": [],
    "NoLog": ["at"], "NoRow": [],
}


class TestInterface(unittest.TestCase):
    def test_functions(self):
        for module, functions in FUNCTIONS.items():
            for name, arguments in functions.items():
                function = getattr(importlib.import_module("lentloft." + module), name)
                self.assertEqual(list(inspect.signature(function).parameters), arguments, name)

    def test_methods_stand_in_their_class_itself(self):
        for (module, name), methods in CLASSES.items():
            kind = getattr(importlib.import_module("lentloft." + module), name)
            for method, arguments in methods.items():
                self.assertIn(method, vars(kind), name)
                told = list(inspect.signature(vars(kind)[method]).parameters)
                self.assertEqual(told, ["self"] + arguments, f"{name}.{method}")

    def test_refusals(self):
        errors = importlib.import_module("lentloft.errors")
        self.assertEqual(errors.LoftError.__bases__, (ValueError,))
        for name, arguments in REFUSALS.items():
            refusal = getattr(errors, name)(*arguments)
            self.assertEqual([getattr(refusal, field) for field in arguments], arguments, name)


if __name__ == "__main__":
    unittest.main()
