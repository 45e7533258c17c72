import importlib
import inspect
import unittest

NONE = inspect.Parameter.empty

# Module by module what the interface lists: each name with its arguments and their defaults.
FUNCTIONS = {
    "programs": {"goal_of": ["program", "k"], "moves_of": ["program", "j", "word"]},
    "progtexts": {"show_program": ["program"], "read_program": ["text"]},
    "runs": {"ran": ["program", "begin", ("most", 200)], "step_from": ["program", "stand"]},
    "figures": {
        "figure": ["number", "base", "k"],
        "figures": ["number", "base", "many"],
        "of_figures": ["some", "base"],
        "ones": ["base", "many"],
    },
    "bits": {
        "bits_of": ["number"],
        "of_bits": ["text"],
        "fits": ["one", "other"],
        "stands_out": ["one", "other"],
        "how_many": ["number"],
    },
    "terms": {
        "is_name": ["text"],
        "sum_of": ["terms"],
        "parts": ["term"],
        "deep": ["term"],
        "worth": ["term", "answer"],
    },
    "sayings": {"names_in": ["saying"], "names_in_all": ["sayings"]},
    "saytexts": {"term_text": ["term"], "show_saying": ["saying"], "read_saying": ["text"]},
    "naming": {"names_of": ["program"], "asked_boxes": ["program"]},
    "leading": {"sayings_of": ["program"]},
    "answers": {
        "least_c": ["program", "begin", ("most", 200)],
        "answer_of": ["program", "begin", ("more", 0), ("most", 200)],
    },
    "looking": {
        "holds": ["saying", "answer"],
        "first_wrong": ["sayings", "answer"],
        "off": ["saying", "answer"],
        "far_off": ["sayings", "answer"],
    },
    "reading": {"run_of": ["program", "answer"]},
    "choosing": {
        "choose": ["n", "k"],
        "halvings": ["number"],
        "carries": ["one", "other"],
        "is_odd": ["n", "k"],
    },
    "powers": {"figure_of_power": ["n", "k"]},
    "lowering": {"lowered": ["sayings"], "lowered_answer": ["sayings", "answer"]},
    "lifting": {"lifted": ["sayings", "answer"]},
    "renaming": {"renamed": ["saying", "names"]},
    "one": {"made_one": ["sayings"], "either": ["one", "other"]},
}


def arguments(function):
    told = []
    for one in inspect.signature(function).parameters.values():
        told.append(one.name if one.default is NONE else (one.name, one.default))
    return told


class TestInterface(unittest.TestCase):
    def test_functions(self):
        for file, functions in FUNCTIONS.items():
            module = importlib.import_module("runsums." + file)
            for name, told in functions.items():
                with self.subTest(file=file, name=name):
                    function = getattr(module, name)
                    self.assertEqual(function.__module__, module.__name__)
                    self.assertEqual(arguments(function), told)

    def test_program(self):
        programs = importlib.import_module("runsums.programs")
        self.assertEqual(programs.Program.__module__, "runsums.programs")
        self.assertEqual(arguments(programs.Program), ["boxes", "rows"])
        for method in ("__init__", "__eq__", "__len__", "__str__", "__repr__"):
            self.assertIn(method, vars(programs.Program))

    def test_saying(self):
        sayings = importlib.import_module("runsums.sayings")
        self.assertEqual(sayings.Saying.__module__, "runsums.sayings")
        self.assertEqual(arguments(sayings.Saying), ["word", "left", "right"])
        for method in ("__init__", "__eq__", "__str__", "__repr__"):
            self.assertIn(method, vars(sayings.Saying))

    def test_desk(self):
        desk = importlib.import_module("runsums.desk")
        self.assertEqual(desk.Desk.__module__, "runsums.desk")
        self.assertEqual(arguments(desk.Desk), [])
        self.assertEqual(arguments(vars(desk.Desk)["say"]), ["self", "row"])


if __name__ == "__main__":
    unittest.main()
