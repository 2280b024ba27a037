"""Names, files and parameters as the interface lists them."""

import importlib
import inspect
import unittest

from liarslate.benches import Bench
from liarslate.desk import Desk
from liarslate.layers import Loose
from liarslate.nets import Net
from liarslate.sealing import Sealed
from liarslate.spreading import Spread
from liarslate.texts import Program

FUNCTIONS = {
    "texts": {
        "program_of": "inputs cells rounds say",
        "input_values": "program",
        "begun": "program value",
        "sent": "program house hand at cells",
        "later": "program house hand at cells heard",
        "said": "program house hand cells",
    },
    "calm": {
        "is_calm": "program house value",
        "values": "program house calm",
        "cells_of": "program house calm hand",
        "says": "program house calm",
        "letters": "program house calm",
        "letter_of": "program house calm hand at",
        "grown": "program house elder newer",
        "joined": "program house one other",
        "least": "program house calm hand at",
        "knows": "program house calm hand",
        "alike": "program house one other hand",
        "options": "program house calm hand",
        "hears": "program house calm hand lot",
        "begins": "program house calm hand value",
    },
    "spreading": {"usual": "n t"},
    "counts": {
        "breaks": "n t counts sentence",
        "shows_breaks": "n t counts sentence value",
        "played": "n counts talk",
        "broken": "n counts talk",
        "why": "n t counts",
        "fine_counts": "n t",
        "bears": "n counts",
        "fewest": "t",
    },
    "nets": {"replayed": "program house inputs liars log", "back": "net many"},
    "told": {
        "told": "net hand",
        "told_all": "net",
        "told_at": "net hand many",
        "shared": "net",
        "least_told": "net hand letter",
        "paper": "net hand letter",
        "story": "net hand",
        "differs": "net one other",
        "slowness": "net",
        "is_story": "program house value",
        "calm_of": "program house story",
    },
    "waiting": {
        "stand": "net hand other at",
        "waits": "net hand",
        "chain": "net hand",
        "shows_chain": "net hand value",
        "over": "net",
        "to_rest": "net",
        "slips_about": "net hand at",
        "all_slips": "house rounds",
        "first_used": "net letter",
        "late": "net",
    },
    "ends": {
        "ends": "program house lot inputs most",
        "spans": "program house lot inputs most",
        "claimed": "program house lot inputs claim most",
        "shows_claimed": "program house lot inputs claim most value",
        "for_all": "program house claim most",
        "shows_for_all": "program house claim most value",
        "brought": "program house lot calm",
        "shows_brought": "program house lot calm value",
        "net_break": "program house claim most",
        "shows_net_break": "program house claim most value",
    },
    "layers": {
        "fallen": "loose",
        "falls": "house layer",
        "fall": "program house layer sentence",
        "shows_fall": "program house layer sentence value",
    },
    "sealing": {
        "sealed_breaks": "n t count sentence",
        "shows_sealed_breaks": "n t count sentence value",
        "sealed_played": "n count talk",
        "sealed_broken": "n count talk",
    },
    "lies": {
        "takeable": "net letter",
        "passing": "net liar",
        "said_to": "net liar hands letter",
        "two_faced": "net liar one other side",
        "backed": "net liar letter",
        "followed": "program house calm hand",
    },
    "records": {
        "record": "net",
        "is_record": "program house value",
        "inputs_of": "program house record hand",
        "kept": "program house record",
        "liars_in": "program house record",
        "explains": "program house record lot",
        "first_lie": "program house record hand",
    },
    "journals": {"journal": "bench", "read_journal": "text"},
}
NET_METHODS = {
    "__eq__": "self other",
    "__len__": "self",
    "deliver": "self number",
    "lie": "self liar to slip",
    "rest": "self",
    "taken": "self hand",
    "used": "self hand",
    "lots": "self hand",
    "cells": "self hand",
    "at_round": "self hand",
    "heard": "self hand other at",
    "copy": "self",
}
CLASSES = {
    ("texts", "Program"): {"__init__": "self text", "__eq__": "self other"},
    ("spreading", "Spread"): {
        "__init__": "self n counts liars first value",
        "__eq__": "self other",
        "__len__": "self",
        "deliver": "self number",
        "lie": "self liar to kind value",
        "rest": "self",
        "heard": "self hand",
        "copy": "self",
    },
    ("nets", "Net"): {"__init__": "self program house inputs liars", **NET_METHODS},
    ("layers", "Loose"): {"__init__": "self program house inputs liars layer", **NET_METHODS},
    ("sealing", "Sealed"): {
        "__init__": "self n count liars first value",
        "__eq__": "self other",
        "__len__": "self",
        "deliver": "self number",
        "lie": "self liar to kind value",
        "rest": "self",
        "heard": "self hand",
        "copy": "self",
    },
    ("benches", "Bench"): {
        "__init__": "self text house inputs liars",
        "__eq__": "self other",
        "__len__": "self",
        "__contains__": "self x",
        "deliver": "self number",
        "lie": "self liar to slip",
        "rest": "self",
        "fresh": "self inputs liars",
        "rewrite": "self text",
        "net_now": "self",
        "undo": "self",
        "redo": "self",
        "block": "self",
        "keep": "self",
        "copy": "self",
    },
    ("desk", "Desk"): {"__init__": "self text", "say": "self line"},
}
PROPERTIES = {
    ("texts", "Program"): "text rounds inputs names",
    ("spreading", "Spread"): "n counts liars first under_way echoes promises takings log",
    ("nets", "Net"): "program house inputs liars under_way says sent log",
    ("layers", "Loose"): "program house inputs liars layer under_way says sent log",
    ("sealing", "Sealed"): "n needed liars first under_way echoes takings log",
    ("benches", "Bench"): "program house inputs liars deeds",
    ("desk", "Desk"): "bench",
}


def parameters(call):
    """The names of its parameters; all may be passed by position or by name, and have no default."""
    told = inspect.signature(call).parameters.values()
    assert all(one.kind is one.POSITIONAL_OR_KEYWORD and one.default is one.empty for one in told)
    return " ".join(one.name for one in told)


class Interface(unittest.TestCase):
    def test_functions(self):
        for file, functions in FUNCTIONS.items():
            module = importlib.import_module("liarslate." + file)
            for name, told in functions.items():
                call = getattr(module, name)
                self.assertTrue(inspect.isfunction(call))
                self.assertEqual(call.__module__, "liarslate." + file)
                self.assertEqual(parameters(call), told, name)

    def test_classes_define_their_methods_themselves(self):
        for (file, name), methods in CLASSES.items():
            kind = getattr(importlib.import_module("liarslate." + file), name)
            self.assertEqual(kind.__module__, "liarslate." + file)
            for method, told in methods.items():
                self.assertIn(method, vars(kind))
                self.assertEqual(parameters(vars(kind)[method]), told, (name, method))

    def test_tried(self):
        """Its keep is passed by name alone."""
        told = inspect.signature(vars(Bench)["tried"]).parameters
        self.assertEqual(list(told), ["self", "look", "keep"])
        self.assertIs(told["keep"].kind, inspect.Parameter.KEYWORD_ONLY)
        self.assertIs(told["keep"].default, False)

    def test_properties(self):
        program = Program("inputs 0 9\ncells x\nround x\nsay x")
        made = {
            "Program": program,
            "Spread": Spread(4, (3, 2, 3), (3,), 0, 5),
            "Net": Net(program, (4, 1), (1, 2, 3, None), (3,)),
            "Loose": Loose(program, (4, 1), (1, 2, 3, None), (3,), "claims"),
            "Sealed": Sealed(4, 3, (3,), 0, 5),
            "Bench": Bench(program.text, (4, 1), (1, 2, 3, None), (3,)),
            "Desk": Desk(program.text + "\nhouse 1 0\ninputs 0\nliars\ndeeds"),
        }
        for (_, name), told in PROPERTIES.items():
            for word in told.split():
                self.assertTrue(hasattr(made[name], word), (name, word))
                self.assertFalse(callable(getattr(made[name], word)), (name, word))


if __name__ == "__main__":
    unittest.main()
