"""The interface: the names and the arguments of all that has landed."""

import importlib
import inspect
import unittest

FUNCTIONS = {
    "webs": {"is_web": ["thing"], "is_weights": ["web", "thing"], "weight_of": ["weights", "tie"]},
    "parting": {"parts_of": ["web"]},
    "texting": {"show_web": ["web", "weights"], "read_web": ["text"]},
    "siding": {"is_sides": ["web", "thing"], "sides_hold": ["web", "thing"], "broken_by": ["web", "sides"],
               "sides_of": ["web"]},
    "ringing": {"ring_holds": ["web", "thing"], "foes_in": ["web", "ring"], "odd_ring_holds": ["web", "thing"]},
    "layering": {"layers_hold": ["web", "number", "thing"]},
    "shortest": {"shortest_odd": ["web"]},
    "turning": {"turned": ["web", "places"], "stems": ["web"], "ring_closed": ["web", "tie"], "plain": ["web"]},
    "framing": {"are_framed": ["one", "other"], "told_turning": ["one", "other"],
                "turning_holds": ["one", "other", "thing"]},
    "firsts": {"first_broken": ["web"]},
    "mending": {"mend_holds": ["web", "thing"], "mend_weight": ["weights", "ties"], "least_mend": ["web", "weights"]},
    "papering": {"paper_of": ["web", "weights"]},
    "checking": {"shown_by": ["web", "weights", "thing"]},
    "facing": {"is_orders": ["web", "thing"], "faces_of": ["web", "orders"], "are_flat": ["web", "orders"],
               "odd_faces": ["web", "orders"]},
    "flatting": {"flat_mend": ["web", "orders", "weights"], "flat_paper": ["web", "orders", "weights"]},
    "flatchecks": {"flat_paper_holds": ["web", "orders", "weights", "number", "thing"]},
    "several": {"friends_of": ["web"], "several_hold": ["web", "k", "thing"], "several": ["web", "k"],
                "least_several": ["web"]},
    "severalchecks": {"none_holds": ["web", "k", "thing"]},
    "moving": {"broken_weight": ["web", "weights", "sides"], "leans": ["web", "weights", "sides"],
               "is_settled": ["web", "weights", "sides"], "settled": ["web", "weights", "sides"]},
}
DEFAULTS = {name: {"weights": None} for name in ("show_web", "least_mend", "paper_of", "flat_mend", "flat_paper")}
CLASSES = {
    ("standing", "Stand"): {"__init__": ["self", "many"], "come": ["self", "one", "other", "kind"], "back": ["self"],
                            "web": ["self"], "sides": ["self"], "between": ["self", "one", "other"],
                            "broken": ["self"]},
    ("desk", "Desk"): {"__init__": ["self", "many"], "say": ["self", "text"], "now": ["self"]},
}


class Interface(unittest.TestCase):
    def test_names_and_arguments(self):
        for module, functions in FUNCTIONS.items():
            found = importlib.import_module("friendfoe." + module)
            for name, arguments in functions.items():
                function = getattr(found, name)
                parameters = inspect.signature(function).parameters
                self.assertEqual(list(parameters), arguments, name)
                self.assertEqual(function.__module__, "friendfoe." + module)
                defaults = {key: told.default for key, told in parameters.items() if told.default is not told.empty}
                self.assertEqual(defaults, DEFAULTS.get(name, {}), name)

    def test_classes_and_their_own_methods(self):
        for (module, name), methods in CLASSES.items():
            found = getattr(importlib.import_module("friendfoe." + module), name)
            self.assertEqual(found.__module__, "friendfoe." + module)
            for method, arguments in methods.items():
                self.assertIn(method, vars(found), name)
                self.assertEqual(list(inspect.signature(vars(found)[method]).parameters), arguments, (name, method))


if __name__ == "__main__":
    unittest.main()
