import importlib
import inspect
import unittest

FUNCTIONS = {
    "fourtell.packs": {"most": ["size"], "counts": ["size", "cards"]},
    "fourtell.orders": {"order_number": ["row"], "order_at": ["numbers", "number"]},
    "fourtell.deals": {"laid": ["size", "cards", "hand"], "told": ["size", "cards", "row"]},
    "fourtell.hands": {"hand_at": ["size", "cards", "number"], "hand_number": ["size", "cards", "hand"]},
    "fourtell.plans": {"plan": ["size", "cards", "begun"]},
    "fourtell.notes": {"shown": ["numbers"], "read": ["text"]},
}


class InterfaceTest(unittest.TestCase):
    def test_names_and_arguments_as_the_document_tells_them(self):
        for file, functions in FUNCTIONS.items():
            module = importlib.import_module(file)
            for name, arguments in functions.items():
                parameters = inspect.signature(getattr(module, name)).parameters
                self.assertEqual(list(parameters), arguments, name)
                for parameter in parameters.values():
                    self.assertIs(parameter.default, inspect.Parameter.empty, name)


if __name__ == "__main__":
    unittest.main()
