"""Every name of the document's interface, with its arguments."""

import importlib
import inspect
import unittest

FUNCTIONS = {
    "yards": {
        "is_yard": "thing", "is_guest": "yard thing", "lines_beneath": "yard line", "way_up": "yard line",
        "yard_times": "yard k", "guests_times": "guests k",
    },
    "fillings": {
        "totals_of": "filling", "lacks_of": "guests filling", "loads_of": "yard guests filling",
        "fault_of": "yard guests filling",
    },
    "giving": {
        "given_at": "yard guests some turn", "given_most": "yard guests some", "cuts_of": "yard guests some",
        "short_of": "yard guests some",
    },
    "flows": {},
    "filled": {"least_lack": "yard guests", "best_filling": "yard guests", "lacking_set": "yard guests"},
    "peaks": {"yard_lowered": "yard p", "least_peak": "yard guests"},
    "fractions": {"fraction": "top bottom", "is_fairer": "one other"},
    "fairness": {
        "fair_levels": "yard guests", "fairest": "yard guests", "is_fairest": "yard guests k filling",
    },
    "texts": {"written": "yard guests", "read": "text"},
}
METHODS = {
    ("hands", "Hand"): {
        "__init__": "yard", "now": "", "come": "guest", "turn": "", "leave": "number", "got": "number",
        "rest": "number", "set_bound": "line turn bound", "open_ones": "", "gifts": "", "yard_now": "",
    },
    ("desk", "Desk"): {"__init__": "text", "say": "row"},
}


def drawn_from(module):
    return importlib.import_module(f"chargeyard.{module}")


def arguments(function):
    return list(inspect.signature(function).parameters)


class InterfaceTest(unittest.TestCase):
    def test_functions(self):
        for module, functions in FUNCTIONS.items():
            for name, names in functions.items():
                self.assertEqual(arguments(getattr(drawn_from(module), name)), names.split(), name)

    def test_classes(self):
        for (module, name), methods in METHODS.items():
            for method, names in methods.items():
                told = arguments(getattr(getattr(drawn_from(module), name), method))
                self.assertEqual(told, ["self"] + names.split(), method)


if __name__ == "__main__":
    unittest.main()
