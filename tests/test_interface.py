"""The names and arguments of the interface, as they stand in the document."""

import importlib
import inspect
import unittest

FUNCTIONS = {
    "bars": ("is_bars(size, text)", "runs(text)", "bars_of(size, rows)", "joined(one, other, place)"),
    "ends": ("ends(size, cuts)", "farthest(size, cuts, text, end)", "bar_of(size, cuts, takes)"),
    "reach": ("reach(size, cuts, takes, age)", "least_age(size, cuts, takes)"),
    "few": (
        "fewest(size, cuts, takes, age)",
        "count_best(size, cuts, takes)",
        "best_of(size, cuts, takes, number)",
        "number_of(size, cuts, takes, make)",
    ),
    "makes": ("made(size, cuts, takes, make)", "joinings(make)", "make_text(make)", "make_of(text)"),
    "papers": (
        "young_paper(size, cuts, takes, age)",
        "few_paper(size, cuts, takes, age, many)",
        "answer(size, cuts, takes)",
    ),
    "looker": (
        "good_young(size, cuts, takes, age, paper)",
        "good_few(size, cuts, takes, age, many, paper)",
        "good_answer(size, cuts, takes, told)",
    ),
    "sheets": ("sheet(room)", "room_of(text)"),
}
CLASSES = {
    "room": (
        "Room(size)",
        "put(self, name, bars, age)",
        "join(self, name, left, right, place)",
        "found(self, name, bar, sign)",
        "aged(self, name, age)",
        "drop(self, name)",
        "free(self, place)",
        "shut(self, place)",
        "deed(self, row)",
        "undo(self)",
        "redo(self)",
        "deeds(self)",
        "ahead(self)",
        "size(self)",
        "names(self)",
        "bars(self, name)",
        "age(self, name)",
        "parts(self, name)",
        "source(self, name, bar)",
        "cuts(self)",
        "takes(self)",
        "answer(self)",
        "least(self)",
        "few(self)",
        "after(self, deeds)",
        "coming(self)",
        "twin(self)",
    ),
    "course": ("Course(room)", "step(self, name)", "steps(self)", "over(self)"),
}


class Interface(unittest.TestCase):
    def test_functions_and_their_arguments(self):
        for name, functions in FUNCTIONS.items():
            module = importlib.import_module(f"hissroom.{name}")
            for written in functions:
                function = getattr(module, written.split("(")[0])
                self.assertEqual(function.__name__ + str(inspect.signature(function)), written)

    def test_classes_and_their_methods(self):
        for name, (made, *methods) in CLASSES.items():
            kind = getattr(importlib.import_module(f"hissroom.{name}"), made.split("(")[0])
            self.assertEqual(kind.__name__ + str(inspect.signature(kind)), made)
            for written in methods:
                method = getattr(kind, written.split("(")[0])
                self.assertEqual(method.__name__ + str(inspect.signature(method)), written)


if __name__ == "__main__":
    unittest.main()
