"""The interface: what stands in which file, with which arguments."""

import importlib
import inspect
import unittest

FUNCTIONS = {
    "signs": ("is_text(thing)", "is_name(thing)"),
    "patterns": ("shaped(thing)", "names_of(pattern)", "blank(pattern)"),
    "read": ("read(text)",),
    "write": ("write(pattern)",),
    "ways": ("way_end(pattern, text, way, at)", "way_holds(pattern, text, way)", "pieces_of(pattern, way, at)",
             "row_of(pattern, way)"),
    "judge": ("judged(pattern)",),
    "single": ("single(pattern)",),
    "plain": ("rows_of(pattern, text)", "ways_to(pattern, text, row, *, most=2)"),
    "order": ("marks_at(row, names, place)", "in_order(rows, names)"),
    "tables": ("joined(one, other)", "either(one, other)", "without(one, other)", "only(table, names)",
               "same(table, one, other, text)"),
    "plans": ("names_in(plan)", "fault_of(plan)"),
    "meaning": ("meaning(plan, text)", "parted(plan, other, *, signs='ab', most=3)"),
    "machines": ("is_machine(thing)",),
    "runs": ("run_holds(machine, text, row, run)", "bar_holds(machine, text, row, bar)", "why(machine, text, row)"),
    "made": ("made(pattern)",),
    "deeds": ("joint(one, other)", "choice(one, other)", "few(machine, names)", "rest(one, other)"),
    "ahead": ("ahead(machine, text, name)", "shut_holds(machine, text, name, thing)"),
    "likeness": ("alike_holds(one, other, thing)", "part_holds(one, other, thing)"),
    "alike": ("alike(one, other)",),
    "rules": ("moved(plan, move)", "led(plan, moves)"),
    "lowering": ("lowered(plan)",),
}

CLASSES = {
    "tables": {"Table(names, rows)": ("__len__", "__eq__", "__str__")},
    "walk": {"Walk(edges, depth)": ("more(self)",)},
    "told": {"Told(machine, text)": ("more(self)", "opened(self)", "sofar(self)", "left(self)",
                                     "each(self, tell, *, most=None)")},
    "desk": {"Desk(plan, *, text='')": ("table(self)", "shows(self)", "__len__", "__eq__", "__str__",
                                        "edit(self, at, *, cut=0, put='')", "back(self)", "tried(self, edits, *, tell=None)",
                                        "log(self)")},
    "feed": {"Feed(machine)": ("feed(self, text)", "fed(self)", "sees(self)", "open_names(self)", "live(self)", "__len__")},
}

VALUES = {"signs": ("SIGNS", "LONG"), "plain": ("MOST",), "meaning": ("SOME", "LONGEST"),
          "desk": ("LINES", "BACKS")}


class Interface(unittest.TestCase):
    def test_functions_stand_in_their_files(self):
        for file, told in FUNCTIONS.items():
            module = importlib.import_module(f"markpieces.{file}")
            for line in told:
                function = getattr(module, line.partition("(")[0])
                self.assertEqual(function.__module__, module.__name__, line)
                self.assertEqual(f"{function.__name__}{inspect.signature(function)}", line)

    def test_classes_stand_in_their_files_with_methods_of_their_own(self):
        for file, told in CLASSES.items():
            module = importlib.import_module(f"markpieces.{file}")
            for line, methods in told.items():
                one = getattr(module, line.partition("(")[0])
                self.assertEqual(one.__module__, module.__name__, line)
                self.assertEqual(f"{one.__name__}{inspect.signature(one)}", line)
                for method in methods:
                    name, bracket, arguments = method.partition("(")
                    self.assertIn(name, vars(one), line)
                    if bracket:
                        self.assertEqual(str(inspect.signature(vars(one)[name])), bracket + arguments)

    def test_values_stand_in_their_files(self):
        for file, told in VALUES.items():
            module = importlib.import_module(f"markpieces.{file}")
            for name in told:
                self.assertIn(type(getattr(module, name)), (int, str), name)


if __name__ == "__main__":
    unittest.main()
