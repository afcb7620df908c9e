import importlib
import inspect
import operator
import unittest

ARGUMENTS = {
    "errors": {"NoWall": ["place"]},
    "ratios": {
        "divisor": ["one", "other"],
        "ratio": ["top", "bottom"],
        "plus": ["one", "other"],
        "minus": ["one", "other"],
        "times": ["one", "other"],
        "over": ["one", "other"],
        "below": ["one", "other"],
    },
    "walls": {"wall": ["numbers"], "looked": ["ways", "walls"], "side": ["wall", "point"]},
    "parts": {"common": ["ways", "walls", "lot"], "ladder": ["ways", "walls"]},
    "polynomials": {
        "worth": ["polynomial", "number"],
        "by_ladder": ["ways", "walls"],
        "by_lots": ["ways", "walls"],
        "by_taking_out": ["ways", "walls"],
        "drawn_into": ["ways", "walls", "place"],
    },
    "lands": {"lands": ["ways", "walls"], "way_out": ["ways", "walls", "signs"]},
    "walks": {"between": ["ways", "walls", "one", "other"], "walk": ["ways", "walls", "one", "other"]},
    "rests": {"off_all": ["ways", "walls", "prime"], "trouble": ["ways", "walls"]},
    "rings": {"rings": ["ways", "walls"], "unbroken": ["ways", "walls"], "by_unbroken": ["ways", "walls"]},
    "pairs": {"of_pairs": ["ways", "pairs"], "runnings": ["ways", "pairs"]},
    "hall": {
        "Hall": ["ways"],
        "Hall.put": ["self", "numbers"],
        "Hall.take": ["self", "place"],
        "Hall.walls": ["self"],
        "Hall.polynomial": ["self"],
        "Hall.lands": ["self"],
        "Hall.ways_out": ["self"],
    },
    "faces": {
        "faces": ["ways", "walls"],
        "put_ahead": ["ways", "walls", "one", "other"],
        "borders": ["ways", "walls", "signs"],
        "corners": ["ways", "walls", "signs"],
    },
}


class TheInterface(unittest.TestCase):
    def test_names_and_arguments(self):
        for module, names in ARGUMENTS.items():
            held = importlib.import_module("wallspace." + module)
            for name, arguments in names.items():
                found = list(inspect.signature(operator.attrgetter(name)(held)).parameters)
                self.assertEqual(found, arguments, module + "." + name)


if __name__ == "__main__":
    unittest.main()
