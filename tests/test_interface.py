"""Each name of the interface stands in its file, each method in its class, with the parameters that it lists."""

import importlib
import inspect
import unittest

LOOKS = {
    "walk": "(self)", "listed": "(self)", "size": "(self)", "truth": "(self)", "count": "(self)", "is_any": "(self)",
    "has": "(self, key)", "item": "(self, key)", "part": "(self, low, high)",
}
INTERFACE = {
    "forms": {
        "Form": {
            "read": "(text)", "of": "(**fields)", "filters_of": "(self, field=None)", "field_of": "(self, name)",
            "mask_count": "(self, field)", "all_looks": "(self)", "holds": "(self, name, look)", "__str__": "(self)",
            "__eq__": "(self, other)", "__len__": "(self)", "__contains__": "(self, x)",
        },
        "Condition": {
            "read": "(text, form, *, names=None)", "of": "(form, looks)", "implies": "(self, other)",
            "__str__": "(self)", "__len__": "(self)", "__bool__": "(self)", "__contains__": "(self, x)",
            "__and__": "(self, other)", "__or__": "(self, other)", "__invert__": "(self)", "__eq__": "(self, other)",
        },
    },
    "books": {
        "Book": {
            "__init__": "(self, built='late', **ways)", "usual": "()", "plain": "()", "fresh": "()", "read": "(text)",
            "turned": "(self, look, way)", "unlike": "(self, other)", "__getitem__": "(self, at)",
            "__str__": "(self)", "__eq__": "(self, other)", "__iter__": "(self)",
        },
    },
    "stores": {
        "Store": {
            "__init__": "(self, form, rows, filters, *, book=None)", "told": "(self)", "look_of": "(self, key)",
            "use": "(self, book)", "question": "(self, condition, *, now=False)", "every": "(self)",
            "where": "(self, **wishes)", "others": "(self)", "quiet": "(self)", "quietly": "(self, deed)",
            "__contains__": "(self, x)", "__len__": "(self)",
        },
        "Others": {
            "put": "(self, key, **values)", "write": "(self, key, field, value)", "remove": "(self, key)",
            "do": "(self, deed)",
        },
        "Looks": LOOKS,
        "Question": {**LOOKS, "update": "(self, field, by)", "wipe": "(self)"},
        "Listing": {**LOOKS, "__len__": "(self)", "__contains__": "(self, x)", "__iter__": "(self)"},
        "Row": {
            "change": "(self, field, by)", "read_value": "(self, field)", "save": "(self, *fields)",
            "save_touched": "(self)", "reread": "(self)", "delete": "(self)", "__getitem__": "(self, at)",
            "__setitem__": "(self, at, worth)", "__iter__": "(self)",
        },
    },
}
PROPERTIES = {
    "Store": {"asked": False, "is_quiet": False, "book": True},
    "Question": {"kept": False},
    "Row": {"touched": False},
}


class InterfaceTest(unittest.TestCase):

    def test_classes_and_methods(self):
        for module_name, classes in INTERFACE.items():
            module = importlib.import_module(f"latequestions.{module_name}")
            for class_name, methods in classes.items():
                kind = getattr(module, class_name)
                self.assertEqual(kind.__module__, f"latequestions.{module_name}")
                for name, parameters in methods.items():
                    self.assertIn(name, vars(kind), f"{class_name}.{name}")
                    self.assertEqual(str(inspect.signature(getattr(kind, name))), parameters, f"{class_name}.{name}")

    def test_properties(self):
        for class_name, properties in PROPERTIES.items():
            kind = getattr(importlib.import_module("latequestions.stores"), class_name)
            for name, can_be_assigned in properties.items():
                self.assertIsInstance(vars(kind)[name], property)
                self.assertEqual(vars(kind)[name].fset is not None, can_be_assigned)

    def test_errors_stand_in_their_file(self):
        module = importlib.import_module("latequestions.errors")
        names = [name for name, thing in vars(module).items() if inspect.isclass(thing)]
        self.assertEqual(len(names), 24)
        for name in names:
            self.assertEqual(getattr(module, name).__module__, "latequestions.errors")
