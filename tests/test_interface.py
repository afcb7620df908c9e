import importlib
import inspect
import unittest

ARGUMENTS = {
    "errors": {"NoWall": ["place"]},
    "ratios": {
        "divisor": ["one", "other"],
        "ratio": ["top", "bottom"],
        "plus": ["one", "other"],
        "minus": ["one", "other"],
        "times": ["one", "other"],
        "over": ["one", "other"],
        "below": ["one", "other"],
    },
    "walls": {"wall": ["numbers"], "looked": ["ways", "walls"], "side": ["wall", "point"]},
    "parts": {"common": ["ways", "walls", "lot"], "ladder": ["ways", "walls"]},
}


class TheInterface(unittest.TestCase):
    def test_names_and_arguments(self):
        for module, names in ARGUMENTS.items():
            held = importlib.import_module("wallspace." + module)
            for name, arguments in names.items():
                found = list(inspect.signature(getattr(held, name)).parameters)
                self.assertEqual(found, arguments, module + "." + name)


if __name__ == "__main__":
    unittest.main()
