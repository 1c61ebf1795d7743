"""The names, arguments and constants of the interface."""

import inspect
import unittest

from traitmere import bench, boxes, chart, desk, grammar, joins, kinds, machine, pages, papers, texts, walks

FUNCTIONS = (
    (boxes.built, "(kinds, nodes)"), (boxes.fits, "(kinds, box)"), (texts.written, "(box)"),
    (texts.read, "(kinds, text)"), (walks.below, "(kinds, low, high)"), (walks.walk, "(kinds, low, high)"),
    (walks.over, "(kinds, one, other)"), (walks.at_rest, "(kinds, box)"), (joins.join, "(kinds, one, other)"),
    (joins.join_all, "(kinds, boxes)"), (joins.rest, "(kinds, box)"),
    (papers.clash, "(kinds, one, other)"), (papers.shows, "(kinds, one, other, rows)"), (machine.compiled, "(box)"),
    (machine.run, "(kinds, rows, box)"), (pages.table_page, "(kinds)"), (pages.grammar_page, "(grammar)"),
    (pages.read_table, "(text)"), (pages.read_grammar, "(text)"),
)
METHODS = {
    boxes.Box: {"kind": "(self)", "nodes": "(self)", "behind": "(self, path)", "__len__": "(self)",
                "__eq__": "(self, other)", "__str__": "(self)", "__repr__": "(self)"},
    kinds.Kinds: {"__init__": "(self)", "put": "(self, name, ups=('any',), *, rooms=())", "drop": "(self, name)",
                  "must": "(self, name, box)", "free": "(self, name)", "names": "(self)", "ups": "(self, name)",
                  "above": "(self, name)", "under": "(self, name)", "is_below": "(self, one, other)",
                  "low": "(self, one, other)", "high": "(self, one, other)", "rooms": "(self, name)",
                  "told": "(self, name)", "home": "(self, room)", "let_in": "(self, name, room)",
                  "must_of": "(self, name)", "twin": "(self)", "__len__": "(self)", "__eq__": "(self, other)",
                  "__repr__": "(self)"},
    bench.Bench: {"__init__": "(self, kinds)", "bring": "(self, box)",
                  "fuse": "(self, one, other, *, path=(), other_path=())", "narrow": "(self, one, kind, *, path=())",
                  "give": "(self, one, room, other, *, path=())", "told": "(self, one, *, path=())",
                  "mark": "(self)", "back": "(self, mark)", "__len__": "(self)"},
    grammar.Grammar: {"__init__": "(self, kinds)", "word": "(self, name, box)", "unword": "(self, name, box)",
                      "rule": "(self, name, box, parts)", "unrule": "(self, name)", "together": "(self, deeds)",
                      "undo": "(self)", "redo": "(self)", "words": "(self)", "meanings": "(self, name)",
                      "rules": "(self)", "rule_of": "(self, name)", "kinds": "(self)", "steps": "(self)",
                      "readings": "(self, row, *, goal=None)", "tree": "(self, row, box)",
                      "is_tree": "(self, row, box, text)", "said": "(self, goal, *, most=3)", "kept": "(self)",
                      "twin": "(self)", "__len__": "(self)", "__eq__": "(self, other)"},
    desk.Desk: {"__init__": "(self, grammar)", "say": "(self, line)", "grammar": "(self)"},
}


class TestInterface(unittest.TestCase):
    def test_constants(self):
        self.assertEqual((kinds.ANY, kinds.MOST_KINDS, chart.WHOLE), ("any", 24, "whole"))
        self.assertEqual((grammar.MOST_WORDS, grammar.MOST_RULES), (12, 6))

    def test_functions(self):
        for function, given in FUNCTIONS:
            self.assertEqual(str(inspect.signature(function)), given, function.__name__)

    def test_methods_stand_in_their_classes(self):
        for owner, methods in METHODS.items():
            for name, given in methods.items():
                self.assertIn(name, vars(owner))
                self.assertEqual(str(inspect.signature(vars(owner)[name])), given, name)


if __name__ == "__main__":
    unittest.main()
