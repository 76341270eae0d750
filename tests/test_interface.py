"""Names, arguments and places of what the document lists, as far as it has landed."""

import ast
import inspect
import unittest
from importlib import import_module

from tests.test_language import FILES, tree_of

FUNCTIONS = {
    "kinds": "is_integer(thing), is_number(thing), is_bit(thing), is_sizes(thing), is_setting(sizes, thing),"
             " is_lot(many, thing), is_fears(many, thing), is_ground(thing)",
    "quotients": "is_quotient(thing), quotient_of(top, bottom), plus(one, other), times(one, other)",
    "settings": "settings_of(sizes), place_of(sizes, setting), setting_at(sizes, place), choices_on(sizes, setting, lot),"
                " put_on(sizes, setting, lot, choices)",
    "lots": "others_of(many, lot), lots_of(many), greatest_of(many, lots)",
    "feardeeds": "is_feared(many, fears, lot), feared_lots(many, fears), blind_lots(many, fears, lot),"
                 " few_fears(many, few)",
    "partings": "is_parting(many, fears, lot), partings_of(many, fears), parting_of(many, fears, one, other),"
                " atoms_of(many, fears), atom_at(many, fears, house)",
    "covers": "fewest_all(many, fears), cover_of(many, fears), atom_paper(many, fears, lot)",
    "atomchecker": "lets_atom(many, fears, lot, thing)",
    "grounds": "beside(one, other), left_out(ground, house), feared_too(ground, lot), calmed(ground, lot)",
    "groundtexts": "ground_line(ground), read_ground(text)",
    "owntables": "is_own(sizes, lot, thing), spread(sizes, lot, own), sum_table(sizes, bit, summands)",
}

METHODS = {
    "Ground": {
        "__init__": "(self, sizes, fears)", "__call__": "(self, lot)", "__getitem__": None, "__contains__": None,
        "__add__": "(self, other)", "__len__": "(self)", "__iter__": "(self)", "__str__": "(self)",
        "__eq__": "(self, other)", "without": "(self, house)", "more": "(self, lot)", "less": "(self, lot)",
        "form_now": "property", "sizes_now": "property", "fears_now": "property", "fewest_now": "property",
        "read": "(cls, text)", "fearing": "(cls, sizes, *lots)",
    },
    "Few": {"__init__": "(self, sizes, few)", "few_now": "property", "grown": "(self, by=1)"},
}


class Interface(unittest.TestCase):

    def test_functions(self):
        for name, listed in FUNCTIONS.items():
            module = import_module(f"closereckoned.{name}")
            defined = [node.name for node in tree_of(f"{name}.py").body if isinstance(node, ast.FunctionDef)]
            for told in listed.replace("), ", ")\n").split("\n"):
                word = told[:told.index("(")]
                self.assertIn(word, defined)
                self.assertEqual(word + str(inspect.signature(getattr(module, word))), told)

    def test_classes(self):
        module = import_module("closereckoned.groundclasses")
        defined = [node.name for node in tree_of("groundclasses.py").body if isinstance(node, ast.ClassDef)]
        for name, methods in METHODS.items():
            self.assertIn(name, defined)
            for method, told in methods.items():
                found = vars(getattr(module, name))[method]
                if told == "property":
                    self.assertIsInstance(found, property)
                elif told is not None:
                    inner = found.__func__ if isinstance(found, classmethod) else found
                    self.assertEqual(str(inspect.signature(inner)), told)
        self.assertEqual(module.Few.__bases__, (module.Ground,))

    def test_files(self):
        self.assertLessEqual({f"{name}.py" for name in (*FUNCTIONS, "errors", "groundclasses", "__init__")}, set(FILES))


if __name__ == "__main__":
    unittest.main()
