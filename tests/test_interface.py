"""The interface: names, arguments, and the files in which they are defined."""

import importlib
import inspect
import unittest

# For each file its functions with their arguments; those behind a * by their names alone.
FUNCTIONS = {
    "words": {"words": "(text)"},
    "trees": {"must_tree": "(thing)", "part_at": "(tree, path)", "parts": "(tree)"},
    "reading": {"read": "(text)", "spots": "(text)"},
    "writing": {"tight": "(tree)", "plain": "(tree)", "tight_spots": "(tree)"},
    "rooms": {"bindings": "(tree)", "outers": "(tree)", "rooms": "(tree)"},
    "teller": {"run": "(tree, ins, *, most=2000)"},
    "code": {"code": "(tree)", "led": "(tree)", "code_slots": "(tree)"},
    "machine": {"go": "(lines, ins, *, most=2000)"},
    "naming": {"named": "(tree, naming)", "hinder": "(tree)", "barred": "(tree)", "cost": "(tree, naming)", "fair": "(tree, letters)"},
    "supply": {"supply": "(letters, many)"},
    "leastnames": {"least_naming": "(tree, letters)", "naming_judged": "(tree, letters, naming, paper)"},
    "properties": {"properties": "(tree)", "props_named": "(tree, keep, names)", "props_least": "(tree, keep, letters)"},
    "still": {"is_sure": "(tree, path)", "is_still": "(tree, path)"},
    "reach": {"reach": "(tree)", "reach_judged": "(tree, thing)", "unreached": "(tree)"},
    "goings": {"gone": "(tree)", "without": "(tree, path)", "bare": "(tree)"},
    "turnings": {"turnings": "(tree)", "turned": "(tree, path, word)"},
    "search": {"leaner": "(tree)", "all_turned": "(tree)", "least_turned": "(tree)", "steps_judged": "(tree, steps, other)",
               "closed": "(tree, thing)"},
    "maps": {"is_map": "(thing, text, other)", "lead": "(entries, at)", "after": "(entries, other)", "map_text": "(entries)", "read_map": "(text)"},
    "whole": {"lean": "(text, letters, *, keep=())", "leaned": "(text, letters, *, keep=())", "runs_alike": "(one, other, many)",
              "alike": "(one, other)"},
}
# For each file its class, with the arguments that make one and its methods with theirs.
CLASSES = {
    "tracing": ("Trace", "(text)", {"turn": "(self, path, word)", "rename": "(self, naming)", "props": "(self, keep, names)", "bare": "(self)", "lean": "(self)",
                                    "back": "(self)", "tree": "(self)", "text": "(self)", "map": "(self)", "steps": "(self)"}),
    "desk": ("Desk", "(*, letters='abcdefghijklmnopqrstuvwxyz')", {"say": "(self, line)"}),
}
ERRORS = {
    "LeanError": None, "NoText": "(at=0)", "NoTree": "(path=(), why='')", "NoPath": None, "NoNaming": "(one=None, other=None)",
    "NoLetters": None, "NoCount": None, "NoTurning": None, "NoMap": None, "NoLine": None, "TooMany": None,
}


class Interface(unittest.TestCase):

    def test_functions(self):
        for file, functions in FUNCTIONS.items():
            module = importlib.import_module("leanscript." + file)
            for word, arguments in functions.items():
                function = getattr(module, word)
                self.assertTrue(inspect.isfunction(function))
                self.assertEqual(function.__module__, "leanscript." + file)
                self.assertEqual(str(inspect.signature(function)), arguments, word)

    def test_classes(self):
        for file, (word, arguments, methods) in CLASSES.items():
            made = getattr(importlib.import_module("leanscript." + file), word)
            self.assertTrue(inspect.isclass(made))
            self.assertEqual(made.__module__, "leanscript." + file)
            self.assertEqual(str(inspect.signature(made)), arguments)
            for method, more in methods.items():
                self.assertTrue(inspect.isfunction(vars(made)[method]))
                self.assertEqual(str(inspect.signature(vars(made)[method])), more)

    def test_errors(self):
        module = importlib.import_module("leanscript.errors")
        for word, arguments in ERRORS.items():
            self.assertTrue(inspect.isclass(getattr(module, word)))
            if arguments is not None:
                self.assertEqual(str(inspect.signature(getattr(module, word))), arguments)

    def test_most(self):
        self.assertEqual(importlib.import_module("leanscript.teller").MOST, 2000)

    def test_letters(self):
        self.assertEqual(importlib.import_module("leanscript.desk").LETTERS, "abcdefghijklmnopqrstuvwxyz")


if __name__ == "__main__":
    unittest.main()
