"""Each name of the interface stands in its file, each method in its class, with the parameters that it lists."""

import importlib
import inspect
import unittest

LOOKS = {
    "walk": "(self)", "listed": "(self)", "size": "(self)", "truth": "(self)", "count": "(self)", "is_any": "(self)",
    "has": "(self, key)", "item": "(self, key)", "part": "(self, low, high)",
}
INTERFACE = {
    "forms": {
        "Form": {
            "read": "(text)", "of": "(**fields)", "filters_of": "(self, field=None)", "field_of": "(self, name)",
            "mask_count": "(self, field)", "all_looks": "(self)", "holds": "(self, name, look)", "__str__": "(self)",
            "__eq__": "(self, other)", "__len__": "(self)", "__contains__": "(self, x)",
        },
        "Condition": {
            "read": "(text, form, *, names=None)", "of": "(form, looks)", "implies": "(self, other)",
            "__str__": "(self)", "__len__": "(self)", "__bool__": "(self)", "__contains__": "(self, x)",
            "__and__": "(self, other)", "__or__": "(self, other)", "__invert__": "(self)", "__eq__": "(self, other)",
        },
    },
    "books": {
        "Book": {
            "__init__": "(self, built='late', **ways)", "usual": "()", "plain": "()", "fresh": "()", "read": "(text)",
            "turned": "(self, look, way)", "unlike": "(self, other)", "__getitem__": "(self, at)",
            "__str__": "(self)", "__eq__": "(self, other)", "__iter__": "(self)",
        },
    },
    "stores": {
        "Store": {
            "__init__": "(self, form, rows, filters, *, book=None)", "told": "(self)", "look_of": "(self, key)",
            "use": "(self, book)", "question": "(self, condition, *, now=False)", "every": "(self)",
            "where": "(self, **wishes)", "others": "(self)", "quiet": "(self)", "quietly": "(self, deed)",
            "__contains__": "(self, x)", "__len__": "(self)",
        },
        "Others": {
            "put": "(self, key, **values)", "write": "(self, key, field, value)", "remove": "(self, key)",
            "do": "(self, deed)",
        },
        "Looks": LOOKS,
        "Question": {**LOOKS, "update": "(self, field, by)", "wipe": "(self)"},
        "Listing": {**LOOKS, "__len__": "(self)", "__contains__": "(self, x)", "__iter__": "(self)"},
        "Row": {
            "change": "(self, field, by)", "read_value": "(self, field)", "save": "(self, *fields)",
            "save_touched": "(self)", "reread": "(self)", "delete": "(self)", "__getitem__": "(self, at)",
            "__setitem__": "(self, at, worth)", "__iter__": "(self)",
        },
    },
}
INTERFACE |= {
    "programs": {
        "Program": {
            "__init__": "(self, rows, form)", "of": "(form, *rows)", "names": "(self, kind=None)",
            "condition_of": "(self, name)", "busy": "(self)", "calm": "(self)", "turnable": "(self)",
            "turned": "(self, rows)", "goes_along": "(self, other)", "__len__": "(self)", "__eq__": "(self, other)",
            "__str__": "(self)",
        },
        "Step": {},
    },
    "runs": {
        "Outside": {"__init__": "(self, picks=(), choices=(), cuts=(), deeds=(), *, value=None)"},
        "Run": {
            "__init__": "(self, program, store, outside)", "holding": "(self, name)", "objects": "(self, name)",
            "step": "(self)", "go": "(self)",
        },
    },
    "askings": {
        "Askings": {
            "__init__": "(self, program, book)", "sources": "(self, step)", "shortest_way": "(self, step, source)",
            "stands_with": "(self, other, one)", "least": "(self)", "most": "(self)", "way_asked": "(self, way)",
        },
    },
    "worlds": {
        "Worlds": {
            "__init__": "(self, program, here, there, *, against=None, most=3000)", "__len__": "(self)",
            "__contains__": "(self, x)", "firsts": "(self)", "worlds": "(self)", "followers": "(self, world)",
            "distance": "(self, world)", "after": "(self, start, labels)",
        },
    },
}
INTERFACE |= {
    "twins": {
        "Twin": {
            "__init__": "(self, program, rows, filters, here, there, outside, *, against=None)", "step": "(self)",
            "do": "(self, deed)", "world_of": "(self, key)",
        },
    },
    "goals": {
        "Goal": {
            "__init__": "(self, kind, field='', *, at_end=False)", "read": "(text)", "__str__": "(self)",
            "__eq__": "(self, other)",
        },
    },
    "judging": {
        "Verdict": {"told": "(self)"},
        "Same": {"told": "(self)", "__bool__": "(self)", "__len__": "(self)"},
        "Parts": {"told": "(self)", "__bool__": "(self)", "__len__": "(self)"},
    },
}
INTERFACE |= {
    "realising": {
        "Real": {"played": "(self)"},
        "Members": {
            "__init__": "(self, values)", "__call__": "(self, value)", "__contains__": "(self, x)", "__len__": "(self)",
        },
        "Powers": {"__init__": "(self, first=0, by=1)", "__call__": "(self, n, key)"},
    },
    "fates": {
        "Fates": {
            "__init__": "(self, program, here, there, *, against=None, most=3000)", "fate": "(self, kind, field='')",
            "text": "(self)",
        },
    },
    "mends": {
        "Mend": {
            "__init__": "(self, *rows)", "__len__": "(self)", "__bool__": "(self)", "__contains__": "(self, x)",
            "__or__": "(self, other)", "__and__": "(self, other)", "__ior__": "(self, other)",
            "__eq__": "(self, other)", "__str__": "(self)",
        },
        "Mends": {
            "__init__": "(self, program, here, there, rows, *, goals=None, most=500)", "least": "(self)",
            "fewest": "(self)", "verdict": "(self, mend)", "askings": "(self, mend)", "__len__": "(self)",
        },
    },
    "pairs": {
        "Comparison": {
            "__bool__": "(self)", "__len__": "(self)", "beginnings": "(self)", "followers": "(self, pair)",
            "parted": "(self, pair)", "realised": "(self)",
        },
    },
}
FUNCTIONS = {
    "realising": {"realise": "(program, here, there, start, labels, *, against=None)"},
    "mends": {"judge_mended": "(program, here, there, mend, *, goals=None, most=3000)"},
    "pairs": {
        "compare": "(one, here, other, there, *, most=3000)",
        "is_comparison": "(one, here, other, there, thing, *, most=3000)",
    },
    "goals": {
        "usual_goals": "(form)", "goal_of": "(table, goal, world)", "goal_by_move": "(table, goal, world, label)",
    },
    "judging": {"judge": "(program, here, there, *, goals=None, against=None, most=3000)"},
    "papers": {"is_paper": "(program, here, there, thing, *, goals=None, against=None, most=3000)"},
    "runs": {"perform": "(program, rows, filters, book, outside)"},
    "askings": {"ways": "(program, most)"},
}
PROPERTIES = {
    ("stores", "Store"): {"asked": False, "is_quiet": False, "book": True},
    ("stores", "Question"): {"kept": False},
    ("stores", "Row"): {"touched": False},
    ("runs", "Run"): {"is_over": False, "shown": False, "refused": False, "bound": False},
}


class InterfaceTest(unittest.TestCase):

    def test_classes_and_methods(self):
        for module_name, classes in INTERFACE.items():
            module = importlib.import_module(f"latequestions.{module_name}")
            for class_name, methods in classes.items():
                kind = getattr(module, class_name)
                self.assertEqual(kind.__module__, f"latequestions.{module_name}")
                for name, parameters in methods.items():
                    self.assertIn(name, vars(kind), f"{class_name}.{name}")
                    self.assertEqual(str(inspect.signature(getattr(kind, name))), parameters, f"{class_name}.{name}")

    def test_functions(self):
        for module_name, functions in FUNCTIONS.items():
            for name, parameters in functions.items():
                function = getattr(importlib.import_module(f"latequestions.{module_name}"), name)
                self.assertEqual(function.__module__, f"latequestions.{module_name}")
                self.assertEqual(str(inspect.signature(function)), parameters, name)

    def test_generators(self):
        from latequestions.askings import ways
        from latequestions.forms import Form
        from latequestions.worlds import Worlds
        for function in (ways, Worlds.firsts, Form.all_looks):
            self.assertTrue(inspect.isgeneratorfunction(function))

    def test_properties(self):
        for (module_name, class_name), properties in PROPERTIES.items():
            kind = getattr(importlib.import_module(f"latequestions.{module_name}"), class_name)
            for name, can_be_assigned in properties.items():
                self.assertIsInstance(vars(kind)[name], property)
                self.assertEqual(vars(kind)[name].fset is not None, can_be_assigned)

    def test_errors_stand_in_their_file(self):
        module = importlib.import_module("latequestions.errors")
        names = [name for name, thing in vars(module).items() if inspect.isclass(thing)]
        self.assertEqual(len(names), 24)
        for name in names:
            self.assertEqual(getattr(module, name).__module__, "latequestions.errors")
