"""The interface: each name, and the names of what is handed in."""

import importlib
import inspect
import unittest

INTERFACE = {
    "webs": {
        "is_whole": "thing", "is_figure": "thing", "is_name": "thing", "is_web": "thing", "web_of": "thing",
        "above": "web arm", "beneath": "web kind", "stands": "web kind other",
    },
    "kin": {
        "road": "web kind other", "hedge": "web kind other",
        "is_road": "web kind other thing", "is_hedge": "web kind other thing",
    },
    "books": {
        "is_book": "thing", "book_of": "web places rules", "fits": "web kinds call", "nearer": "web one other",
    },
    "answers": {"fitting": "book call", "nearest": "book call", "answer_of": "book call"},
    "whys": {"why": "book call", "shows": "book call answer paper"},
    "onward": {"onward": "book call name", "chain": "book call", "layers": "book call"},
    "sorts": {
        "is_sort": "web thing", "is_to_come": "web sort thing", "within": "web one other",
        "meets": "web sort kind other",
    },
    "free": {"quarrel": "book sort"},
    "papers": {"free_paper": "book sort", "shows_free": "book sort paper"},
    "enders": {"enders": "book", "ends": "book thing"},
    "programs": {"is_program": "thing", "program_of": "web deeds", "book_in": "program deed"},
    "walker": {"run": "program deed things"},
    "tables": {"tables_of": "program"},
    "machine": {
        "start": "program tables deed things", "move": "program tables state", "machine": "program deed things",
    },
    "texts": {"shown": "program"},
    "reader": {"read": "text"},
    "pressed": {
        "all_calls": "book", "all_answers": "book", "alike": "book place kind other",
        "parted": "book place kind other", "pressed": "book", "chosen": "web pressing call",
        "is_pressed": "book thing",
    },
    "walks": {
        "walk_of": "book order", "walked": "web walk order call", "is_walk": "book order thing", "best_order": "book",
    },
    "questions": {
        "tree_of": "web labels", "depth_of": "tree", "led": "web tree arm", "tells": "web labels thing",
    },
    "stubborn": {"stubborn": "web labels", "is_stubborn": "web labels depth paper"},
    "loads": {
        "light": "web labels weights", "load_of": "web tree weights", "prices": "web labels weights",
        "is_prices": "web labels weights paper",
    },
    "guides": {"guide_of": "book order", "guided": "web guide call", "is_guide": "book order thing"},
}

CLASSES = {
    "hall": ("Hall", "kind", {
        "kind": "name elders", "deed": "name places", "rule": "deed name kinds steps", "drop": "deed name",
        "unkind": "name", "program": "", "ask": "deed call", "kept": "", "reckoned": "", "run": "deed things",
    }),
    "desk": ("Desk", "kind", {"say": "row"}),
}


class TestInterface(unittest.TestCase):

    def assert_arguments(self, function, arguments):
        parameters = inspect.signature(function).parameters.values()
        self.assertEqual([one.name for one in parameters], arguments.split(), function)
        for one in parameters:
            self.assertEqual(one.kind, inspect.Parameter.POSITIONAL_OR_KEYWORD)
            self.assertEqual(one.default, inspect.Parameter.empty)

    def test_names_and_arguments(self):
        for module, functions in INTERFACE.items():
            loaded = importlib.import_module("bestcalls." + module)
            for name, arguments in functions.items():
                self.assert_arguments(getattr(loaded, name), arguments)

    def test_classes(self):
        for module, (name, arguments, methods) in CLASSES.items():
            loaded = getattr(importlib.import_module("bestcalls." + module), name)
            self.assert_arguments(loaded, arguments)
            for method, handed in methods.items():
                self.assert_arguments(getattr(loaded("a"), method), handed)


if __name__ == "__main__":
    unittest.main()
