"""The examples of the document: each is worked out and compared with its answer."""

import importlib
import pathlib
import re
import unittest

FOLDER = pathlib.Path(__file__).resolve().parent
MODULES = (
    "errors", "systems", "language", "texts", "tables", "states", "loops", "formulas", "grounds",
    "machines", "makers", "ranks", "verdicts", "fair", "fewer", "fewerlaps", "sames", "pairings", "reach", "edits",
    "watch", "claims", "board", "report", "desk",
)


def names_of_all():
    names = {}
    for module in MODULES:
        home = importlib.import_module(f"runclaims.{module}")
        for name, thing in vars(home).items():
            if getattr(thing, "__module__", None) == home.__name__:
                names[name] = thing
    return names


def told_by(error):
    """An error as the examples tell it."""
    values = ", ".join([f"{name}={value!r}" for name, value in vars(error).items()])
    return f"raises {type(error).__name__}({values})"


class Examples(unittest.TestCase):
    def run_file(self, path):
        names = names_of_all()
        done = 0
        for example in re.split(r"^>>> ", path.read_text(), flags=re.M)[1:]:
            code, _, answer = example.strip().partition("\n")
            if answer == "":
                exec(code, names)
                continue
            done += 1
            if answer.startswith("raises "):
                with self.assertRaises(names["ModelError"]) as caught:
                    eval(code, names)
                self.assertEqual(told_by(caught.exception), answer)
            else:
                found, wanted = eval(code, names), eval(answer, {})
                self.assertEqual(found, wanted, code)
                self.assertEqual(repr(found), repr(wanted), code)
        return done

    def test_examples(self):
        many = {
            "point4": 4, "point5": 9, "point6": 3, "point7": 6, "point8": 7, "point9": 7, "point10": 5,
            "point11": 4, "point12": 6, "point13": 4, "point14": 8, "point15": 6,
            "point16": 5, "point17": 5,
        }
        for path in sorted((FOLDER / "examples").iterdir()):
            with self.subTest(path.name):
                self.assertEqual(self.run_file(path), many.pop(path.stem))
        self.assertEqual(many, {})


if __name__ == "__main__":
    unittest.main()
