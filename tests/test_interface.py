import importlib
import inspect
import unittest

ARGUMENTS = {
    "errors": {"NoWall": ["place"]},
    "ratios": {
        "divisor": ["one", "other"],
        "ratio": ["top", "bottom"],
        "plus": ["one", "other"],
        "minus": ["one", "other"],
        "times": ["one", "other"],
        "over": ["one", "other"],
        "below": ["one", "other"],
    },
    "walls": {"wall": ["numbers"], "looked": ["ways", "walls"], "side": ["wall", "point"]},
    "parts": {"common": ["ways", "walls", "lot"], "ladder": ["ways", "walls"]},
    "polynomials": {
        "worth": ["polynomial", "number"],
        "by_ladder": ["ways", "walls"],
        "by_lots": ["ways", "walls"],
        "by_taking_out": ["ways", "walls"],
        "drawn_into": ["ways", "walls", "place"],
    },
    "lands": {"lands": ["ways", "walls"], "way_out": ["ways", "walls", "signs"]},
    "walks": {"between": ["ways", "walls", "one", "other"], "walk": ["ways", "walls", "one", "other"]},
    "rests": {"off_all": ["ways", "walls", "prime"], "trouble": ["ways", "walls"]},
}


class TheInterface(unittest.TestCase):
    def test_names_and_arguments(self):
        for module, names in ARGUMENTS.items():
            held = importlib.import_module("wallspace." + module)
            for name, arguments in names.items():
                found = list(inspect.signature(getattr(held, name)).parameters)
                self.assertEqual(found, arguments, module + "." + name)


if __name__ == "__main__":
    unittest.main()
