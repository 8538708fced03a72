"""The names of the interface stand in the files that list them, with their arguments."""

import ast
import unittest
from pathlib import Path

PACKAGE = Path(__file__).resolve().parent.parent / "mastershow"

FUNCTIONS = {
    "names": {"is_name": ["thing"], "is_worth": ["trait", "thing"], "is_lines": ["thing"]},
    "masters": {
        "is_masters": ["thing"],
        "chain_of": ["masters", "name"],
        "places_of": ["masters", "name"],
        "worth_by": ["masters", "name", "place", "trait"],
        "text_by": ["masters", "name", "place"],
    },
    "decks": {"fault_of": ["thing"]},
    "worths": {
        "worth_at": ["deck", "slide", "place", "trait"],
        "sheet_of": ["deck", "slide"],
        "strays_of": ["deck", "slide"],
    },
    "changes": {
        "set_trait": ["deck", "master", "place", "trait", "worth"],
        "unset_trait": ["deck", "master", "place", "trait"],
        "put_place": ["deck", "master", "place"],
        "take_place": ["deck", "master", "place"],
        "set_text": ["deck", "master", "place", "lines"],
        "lay_under": ["deck", "master", "over"],
        "by_hand": ["deck", "slide", "place", "trait", "worth"],
        "let_go": ["deck", "slide", "place", "trait"],
        "fill_place": ["deck", "slide", "place", "lines"],
        "lay_slide": ["deck", "slide", "master"],
    },
    "touches": {"touched_by": ["deck", "fresh"]},
    "lines": {
        "lines_at": ["deck", "slide", "place"],
        "rows_of": ["lines", "wide"],
        "shrunk_to": ["lines", "wide", "high", "size"],
        "laid_at": ["deck", "slide", "place"],
    },
    "steps": {"groups_of": ["steps"], "times_of": ["steps"]},
    "pictures": {
        "picture_of": ["deck", "slide", "presses", "time"],
        "seen_at": ["deck", "slide", "presses", "time"],
    },
    "numbers": {
        "number_of": ["deck", "slide"],
        "at_number": ["deck", "number"],
        "outline_of": ["deck", "place"],
        "found_lines": ["deck", "word"],
    },
    "notes": {"notes_of": ["deck"], "notes_pages": ["deck", "slide", "wide", "high"]},
    "handouts": {"handouts": ["deck", "across", "down", "page"]},
    "deeds": {"done_deed": ["deck", "deed"]},
    "bringing": {"brought_in": ["deck", "other", "names", "at"]},
    "texts": {"text_of": ["deck"], "read": ["text"]},
}

CLASSES = {
    "errors": (
        "DeckError NoDeck NoMaster NoSlide NoPlace NoTrait NoWorth NoSetting NoName Taken TooMany Ring Used"
        " NoRoom NoSteps NoPress NoTime NoShow NoLink NoNumber NoWord NoDeed NoText NoRow"
    ).split(),
    "shows": ["Show"],
    "keepers": ["Keeper"],
    "desk": ["Desk"],
}

METHODS = {
    ("shows", "Show"): {
        "__init__": ["self", "deck", "names"],
        "where": ["self"],
        "on": ["self"],
        "back": ["self"],
        "jump": ["self", "name"],
        "return_back": ["self"],
        "press": ["self", "place"],
        "trail": ["self"],
        "picture_now": ["self", "time"],
    },
    ("keepers", "Keeper"): {
        "__init__": ["self", "deck"],
        "do": ["self", "deed"],
        "undo": ["self"],
        "again": ["self"],
        "deck": ["self"],
    },
    ("desk", "Desk"): {"__init__": ["self"], "say": ["self", "row"]},
}


def defined_in(module, kind):
    tree = ast.parse((PACKAGE / f"{module}.py").read_text())
    return {node.name: node for node in tree.body if isinstance(node, kind)}


def arguments_of(function):
    return [argument.arg for argument in function.args.args]


class InterfaceTest(unittest.TestCase):
    def test_functions_are_defined_in_their_files(self):
        for module, functions in FUNCTIONS.items():
            found = defined_in(module, ast.FunctionDef)
            for name, arguments in functions.items():
                with self.subTest(name):
                    self.assertEqual(arguments_of(found[name]), arguments)

    def test_classes_are_defined_in_their_files(self):
        for module, classes in CLASSES.items():
            found = defined_in(module, ast.ClassDef)
            for name in classes:
                with self.subTest(name):
                    self.assertIn(name, found)

    def test_methods_are_defined_in_their_classes(self):
        for (module, name), methods in METHODS.items():
            body = defined_in(module, ast.ClassDef)[name].body
            found = {node.name: node for node in body if isinstance(node, ast.FunctionDef)}
            for method, arguments in methods.items():
                with self.subTest(method):
                    self.assertEqual(arguments_of(found[method]), arguments)
