"""The interface: what stands in which file, with which arguments."""

import importlib
import inspect
import unittest

FUNCTIONS = {
    "signs": ("is_text(thing)", "is_name(thing)"),
    "patterns": ("shaped(thing)", "names_of(pattern)", "blank(pattern)"),
    "read": ("read(text)",),
    "write": ("write(pattern)",),
    "ways": ("way_end(pattern, text, way, at)", "way_holds(pattern, text, way)", "pieces_of(pattern, way, at)",
             "row_of(pattern, way)"),
    "judge": ("judged(pattern)",),
    "order": ("marks_at(row, names, place)", "in_order(rows, names)"),
}


class Interface(unittest.TestCase):
    def test_functions_stand_in_their_files(self):
        for file, told in FUNCTIONS.items():
            module = importlib.import_module(f"markpieces.{file}")
            for line in told:
                function = getattr(module, line.partition("(")[0])
                self.assertEqual(function.__module__, module.__name__, line)
                self.assertEqual(f"{function.__name__}{inspect.signature(function)}", line)


if __name__ == "__main__":
    unittest.main()
