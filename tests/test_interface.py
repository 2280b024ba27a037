"""Names, files and parameters as the interface lists them."""

import importlib
import inspect
import unittest

FUNCTIONS = {
    "texts": {
        "program_of": "inputs cells rounds say",
        "input_values": "program",
        "begun": "program value",
        "sent": "program house hand at cells",
        "later": "program house hand at cells heard",
        "said": "program house hand cells",
    },
    "calm": {
        "is_calm": "program house value",
        "values": "program house calm",
        "cells_of": "program house calm hand",
        "says": "program house calm",
        "letters": "program house calm",
        "letter_of": "program house calm hand at",
        "grown": "program house elder newer",
        "joined": "program house one other",
        "least": "program house calm hand at",
        "knows": "program house calm hand",
        "alike": "program house one other hand",
        "options": "program house calm hand",
        "hears": "program house calm hand lot",
        "begins": "program house calm hand value",
    },
    "spreading": {"usual": "n t"},
}
CLASSES = {
    ("texts", "Program"): {"__init__": "self text", "__eq__": "self other"},
    ("spreading", "Spread"): {
        "__init__": "self n counts liars first value",
        "__eq__": "self other",
        "__len__": "self",
        "deliver": "self number",
        "lie": "self liar to kind value",
        "rest": "self",
        "heard": "self hand",
        "copy": "self",
    },
}


def parameters(call):
    """The names of its parameters; all may be passed by position or by name, and have no default."""
    told = inspect.signature(call).parameters.values()
    assert all(one.kind is one.POSITIONAL_OR_KEYWORD and one.default is one.empty for one in told)
    return " ".join(one.name for one in told)


class Interface(unittest.TestCase):
    def test_functions(self):
        for file, functions in FUNCTIONS.items():
            module = importlib.import_module("liarslate." + file)
            for name, told in functions.items():
                call = getattr(module, name)
                self.assertTrue(inspect.isfunction(call))
                self.assertEqual(call.__module__, "liarslate." + file)
                self.assertEqual(parameters(call), told, name)

    def test_classes_define_their_methods_themselves(self):
        for (file, name), methods in CLASSES.items():
            kind = getattr(importlib.import_module("liarslate." + file), name)
            self.assertEqual(kind.__module__, "liarslate." + file)
            for method, told in methods.items():
                self.assertIn(method, vars(kind))
                self.assertEqual(parameters(vars(kind)[method]), told, (name, method))


if __name__ == "__main__":
    unittest.main()
