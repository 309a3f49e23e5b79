"""The interface: what stands in which file and in which class, with which arguments."""

import importlib
import inspect
import unittest

CLASSES = {
    ("raws", "Raw"): {
        "take": "(self, many)", "put": "(self, data)", "go": "(self, place)", "cut": "(self, size)",
        "shut": "(self)", "place": "(self)", "size": "(self)", "seeks": "(self)", "is_shut": "(self)",
        "log": "(self)",
    },
    ("device", "Device"): {
        "__init__": "(self, content, *, plan=(), seeks=True)", "grow": "(self, data)", "content": "(self)",
        "left": "(self)", "__len__": "(self)", "__str__": "(self)", "__eq__": "(self, other)",
    },
    ("pipe", "Pipe"): {"__init__": "(self, *, room=8)", "into": "(self)", "out": "(self)", "held": "(self)"},
    ("plain", "Plain"): {
        "__init__": "(self, row, place=0)", "read": "(self, many=None)", "read_some": "(self, many)",
        "peek": "(self, many=1)", "readline": "(self, limit=None)", "write": "(self, data)",
        "seek": "(self, place, *, start='head')", "tell": "(self)", "size": "(self)", "cut": "(self, size=None)",
        "row": "(self)",
    },
    ("files", "File"): {
        "__init__": "(self, raw, *, room=8, reads=True, writes=True)", "read": "(self, many=None)",
        "read_some": "(self, many)", "peek": "(self, many=1)", "readline": "(self, limit=None)",
        "write": "(self, data)", "seek": "(self, place, *, start='head')", "tell": "(self)", "size": "(self)",
        "cut": "(self, size=None)", "flush": "(self)", "close": "(self)", "waiting": "(self)", "lost": "(self)",
        "closed": "(self)", "busy": "(self)", "detach": "(self)",
    },
    ("texts", "Text"): {
        "__init__": "(self, file, *, code='steps', ends='any', wrong='strict')", "read": "(self, many=None)",
        "peek": "(self, many=1)", "readline": "(self, limit=None)", "write": "(self, signs)", "changes": "(self)",
        "tell": "(self)", "go": "(self, cookie=None)", "go_end": "(self)", "cut": "(self)", "flush": "(self)",
        "close": "(self)", "waiting": "(self)", "lost": "(self)", "closed": "(self)", "busy": "(self)",
        "detach": "(self)",
    },
    ("stretch", "Stretch"): {"__init__": "(self, file, first, size)"},
    ("linebook", "LineBook"): {"__init__": "(self, text)", "line": "(self, k)", "lines": "(self)"},
    ("journal", "Journal"): {
        "__init__": "(self, file)", "add": "(self, data)", "keep": "(self)", "records": "(self)", "kept": "(self)",
        "__len__": "(self)",
    },
}

FUNCTIONS = {
    ("rows", "laid"): "(row, place, data)", ("rows", "row_text"): "(row)", ("rows", "read_row"): "(text)",
    ("codes", "first_state"): "(code)", ("codes", "read_sign"): "(row, place, state, *, code='steps')",
    ("codes", "write_signs"): "(signs, state, *, code='steps')", ("ends", "written_ends"): "(signs, *, ends='any')",
    ("items", "read_items"): "(row, place, state, *, code='steps', ends='any', wrong='strict')",
    ("items", "decoded"): "(row, *, code='steps', ends='any', wrong='strict')",
    ("items", "encoded"): "(signs, *, code='steps', ends='any')",
    ("pouring", "pour"): "(source, target, *, room=8, most=None)", ("journal", "records_of"): "(row)",
    ("playing", "play"): "(file, raw, calls)", ("judging", "judged"): "(content, room, history)",
}


def named(module, name):
    return getattr(importlib.import_module(f"sipstack.{module}"), name)


class Interface(unittest.TestCase):
    def test_each_class_is_defined_in_its_file(self):
        for module, name in CLASSES:
            self.assertEqual(named(module, name).__module__, f"sipstack.{module}")

    def test_each_class_has_its_methods_in_its_own_body(self):
        for (module, name), methods in CLASSES.items():
            for method, arguments in methods.items():
                with self.subTest(module=module, name=name, method=method):
                    own = vars(named(module, name))[method]
                    self.assertEqual(str(inspect.signature(own)), arguments)

    def test_each_function_is_defined_in_its_file(self):
        for (module, name), arguments in FUNCTIONS.items():
            with self.subTest(module=module, name=name):
                function = named(module, name)
                self.assertEqual(function.__module__, f"sipstack.{module}")
                self.assertEqual(str(inspect.signature(function)), arguments)


if __name__ == "__main__":
    unittest.main()
