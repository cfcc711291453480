"""The interface: each name stands in its file, with its arguments; each method stands in its class."""

import ast
import os
import unittest

PACKAGE = os.path.join(os.path.dirname(os.path.dirname(os.path.abspath(__file__))), "foldpress")
FUNCTIONS = {
    "words": {"is_whole": ["thing"], "is_among": ["thing", "least", "most"], "is_name": ["thing"],
              "number_of": ["word"], "words_of": ["row"]},
    "schemetext": {"scheme_rows": ["scheme"], "scheme_text": ["scheme"], "read_scheme": ["text"]},
    "stack": {"folded_stack": ["scheme"]},
    "section": {"section_leaves": ["scheme"], "page_places": ["scheme"], "whole_spreads": ["scheme"],
                "side_rows": ["scheme", "side"]},
    "sheet": {"tumbled_back": ["sheet"]},
    "sheettext": {"sheet_text": ["sheet"], "read_sheet": ["text"]},
    "imposing": {"imposed": ["scheme", "pages"], "section_pages": ["scheme", "sheet"]},
    "allschemes": {"count_schemes": ["rows", "columns"], "all_schemes": ["rows", "columns"]},
    "readback": {"schemes_for": ["sheet"], "hindering": ["sheet"], "scheme_kinds": ["rows", "columns"],
                 "same_sheet": ["one", "other"]},
    "cutting": {"border_edges": ["scheme"], "closed_edges": ["scheme"], "groups_after": ["scheme", "cuts"],
                "loose_leaves": ["scheme", "cuts"], "bifolia": ["scheme"], "can_be_sewn": ["scheme"]},
    "book": {"sheets_of": ["book"], "page_at": ["book", "page"], "leaf_of": ["book", "page"],
             "creep_of": ["book", "thickness"], "spreads_whole": ["book"]},
    "plan": {"plan_for": ["press", "pages"], "book_for": ["press", "pages"], "gaps_shown": ["press", "pages"]},
    "plates": {"doubled": ["sheet"], "tumbled": ["sheet"], "turned_over": ["sheet"], "tumbled_over": ["sheet"],
               "halves_of": ["sheet", "way"]},
    "booktext": {"book_text": ["names", "book"], "read_book": ["text"]},
}
METHODS = {
    "scheme": {"Scheme": {"__init__": ["rows", "columns", "folds"], "told": []}},
    "stack": {"Stack": {"__init__": ["rows", "columns"], "size": [], "leaves_at": ["row", "column"], "all_leaves": [],
                        "fold_part": ["edge", "many", "way"], "unfold": [], "copied": []}},
    "sheet": {"Sheet": {"__init__": ["front", "back"], "told": []}},
    "book": {"Book": {"__init__": ["pages", "parts"], "told": [], "many_places": [], "nest_parts": [],
                      "part_pages": ["part"]}},
    "machine": {"Machine": {"__init__": ["scheme", "sheet"], "step": [], "step_back": [], "steps_left": [],
                            "seen_above": [], "seen_beneath": [], "thickness_at": ["row", "column"],
                            "open_at": ["number"], "all_pages": []}},
    "hand": {"Hand": {"__init__": ["book"], "book": [], "set_pages": ["pages"],
                      "change_part": ["part", "scheme", "how"], "put_part": ["part", "scheme", "how"],
                      "take_part": ["part"], "undo": []}},
    "desk": {"Desk": {"__init__": ["text"], "say": ["line"]}},
}


def body_of(name):
    with open(os.path.join(PACKAGE, name + ".py"), encoding="utf-8") as source:
        return ast.parse(source.read()).body


def arguments(node):
    """The names of a function's arguments; the test fails where some have another form."""
    told = node.args
    assert not (told.posonlyargs or told.kwonlyargs or told.vararg or told.kwarg or told.defaults), node.name
    return [argument.arg for argument in told.args]


class TestInterface(unittest.TestCase):
    def test_functions_are_defined_in_their_files(self):
        for name, functions in FUNCTIONS.items():
            found = {node.name: arguments(node) for node in body_of(name) if isinstance(node, ast.FunctionDef)}
            for function, expected in functions.items():
                self.assertEqual(found.get(function), expected, (name, function))

    def test_methods_are_defined_in_their_classes(self):
        for name, classes in METHODS.items():
            found = {node.name: node for node in body_of(name) if isinstance(node, ast.ClassDef)}
            for class_name, methods in classes.items():
                inside = {node.name: arguments(node)[1:] for node in found[class_name].body
                          if isinstance(node, ast.FunctionDef)}
                for method, expected in methods.items():
                    self.assertEqual(inside.get(method), expected, (class_name, method))


if __name__ == "__main__":
    unittest.main()
