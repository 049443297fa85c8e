"""The names, arguments and files of the interface, as far as they have landed."""

import importlib
import inspect
import unittest

FUNCTIONS = {
    "words": {
        "is_word": "(thing)", "least_word": "(word)", "letter": "(word, k)", "ones": "(word, k)",
        "place_of": "(word, k)", "on": "(one, other, *, most=20000)", "other_of": "(word)",
        "first_unlike": "(one, other)", "rate": "(word)", "joined": "(text, word)",
    },
    "trees": {
        "module_wrong": "(thing)", "places": "(module, *, only=())", "e_at": "(module, place)",
        "with_e": "(module, place, e)", "flows": "(module)",
    },
    "books": {"book_wrong": "(thing)"},
    "texts": {
        "module_text": "(module)", "modules_text": "(modules)", "read_module": "(text, *, most=60)",
        "read_modules": "(text, *, most=60)",
    },
    "kinds": {"kinds": "(book, name)", "kinds_judged": "(book, name, paper)"},
    "clocks": {"clocks": "(book, name)"},
    "lines": {"clocks_judged": "(book, name, paper)"},
    "faces": {"face": "(book, name)"},
    "wants": {"wants": "(book, name)", "order": "(book, name)", "order_judged": "(book, name, paper)"},
    "flat": {
        "flat": "(book, name)", "flat_name": "(book, name, way, x)",
        "told_flat": "(flat, beats, *, measure=2147483647)",
    },
    "loops": {"loop_judged": "(flat, loop, *, measure=2147483647)"},
    "looms": {"woven": "(flat, *, measure=2147483647)"},
    "fusing": {
        "fused": "(flat, loop, *, measure=2147483647)", "gathered": "(flat, *, measure=2147483647)",
        "if_count": "(loop)", "few_ifs": "(flat, track)",
    },
    "parts": {"parts": "(book, name)"},
    "callers": {
        "caller_for": "(book, name, one, other)", "caller_judged": "(book, name, one, other, caller)",
    },
    "clockwords": {"clock_word": "(book, name, flow)"},
    "nets": {
        "net_wrong": "(book, thing)", "lanes_told": "(net, drive)", "lane_judged": "(net, drive, k, thing)",
    },
    "driving": {
        "earliest": "(net)", "reasons": "(net)", "earliest_judged": "(net, drive, paper)", "waits": "(net, title)",
    },
    "papertexts": {"paper_text": "(thing, *, deep=40)", "read_paper": "(text, *, deep=40)"},
}
CLASSES = {
    "words": {"Word": {
        "__init__": "(self, again='1', *, head='')", "word": "(self)", "has_one": "(self, k)", "on": "(self, other)",
        "other": "(self)", "__eq__": "(self, other)", "__len__": "(self)", "__str__": "(self)", "__repr__": "(self)",
    }},
    "books": {"Book": {
        "__init__": "(self, modules, *, measure=2147483647)", "modules": "(self)", "module": "(self, name)",
        "measure": "(self)", "__eq__": "(self, other)", "__len__": "(self)",
    }},
    "teller": {"Run": {
        "__init__": "(self, book, name, *, state=())", "feed": "(self, ins)", "flows": "(self)", "back": "(self, many=1)",
        "copy": "(self)", "state": "(self)", "__len__": "(self)",
    }},
    "machines": {"Machine": {
        "__init__": "(self, flat, loop, *, measure=2147483647)", "feed": "(self, ins)", "done": "(self)", "cells": "(self)",
        "copy": "(self)", "__len__": "(self)",
    }},
    "parts": {"Parted": {"__init__": "(self, book, name)", "told": "(self, k, ins)", "go_on": "(self, ins)"}},
    "nets": {"Net": {
        "__init__": "(self, book, net)", "shape": "(self)", "doors": "(self)", "__eq__": "(self, other)", "__len__": "(self)",
    }},
    "netruns": {"NetRun": {
        "__init__": "(self, net, drive)", "beat": "(self, handed)", "lying": "(self)", "copy": "(self)", "__len__": "(self)",
    }},
    "stores": {"Store": {
        "__init__": "(self, modules=(), *, measure=2147483647)", "put": "(self, module)", "drop": "(self, name)",
        "begin": "(self, title, name)", "end": "(self, title)", "back": "(self)", "again": "(self)",
        "feed": "(self, title, ins)", "over": "(self, title)", "deeds": "(self, rows, *, keep=False)",
        "modules": "(self)", "titles": "(self)", "faces": "(self)", "settle": "(self)", "log": "(self)",
        "run_of": "(self, title)", "__len__": "(self)",
    }},
    "desk": {"Desk": {"__init__": "(self, *, measure=2147483647)", "say": "(self, text)"}},
}
CONSTANTS = {
    "words": {"MOST_SIGNS": 20000}, "trees": {"MOST": 60}, "books": {"MEASURE": 2147483647}, "flat": {"MOST_FLAT": 2000},
    "papertexts": {"MOST_DEEP": 40},
}


class Interface(unittest.TestCase):
    def file(self, name):
        return importlib.import_module(f"clockloom.{name}")

    def test_functions(self):
        for file, functions in FUNCTIONS.items():
            for name, told in functions.items():
                function = getattr(self.file(file), name)
                self.assertEqual(str(inspect.signature(function)), told, name)
                self.assertEqual(function.__module__, f"clockloom.{file}")

    def test_classes(self):
        for file, classes in CLASSES.items():
            for name, methods in classes.items():
                kind = getattr(self.file(file), name)
                self.assertEqual(kind.__module__, f"clockloom.{file}")
                for method, told in methods.items():
                    self.assertEqual(str(inspect.signature(vars(kind)[method])), told, method)

    def test_constants(self):
        for file, constants in CONSTANTS.items():
            for name, told in constants.items():
                self.assertEqual(getattr(self.file(file), name), told)


if __name__ == "__main__":
    unittest.main()
