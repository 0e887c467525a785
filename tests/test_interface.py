"""The interface: the names, arguments and kinds of values that stand in the document."""

import importlib
import inspect
import unittest

FUNCTIONS = {
    "signs": {"is_sign": "whatever", "is_text": "whatever", "is_name": "whatever", "rank": "sign", "sign_of": "number",
              "twin": "sign", "is_word": "sign"},
    "sets": {"settled": "rows", "turned": "rows", "joined": "rows, others", "common": "rows, others",
             "with_twins": "rows", "holds": "rows, sign", "first_held": "rows", "marks": "many"},
    "trees": {"group_names": "tree", "idle": "tree"},
    "faults": {"fault": "whatever"},
    "reader": {"read_pattern": "whatever"},
    "writer": {"show_pattern": "tree"},
    "codes": {"code_of": "tree"},
    "compare": {"stand_behind": "pattern, text", "compared": "one, other, *, most=200"},
    "judge": {"judged": "pattern"},
    "plainer": {"plainer": "tree"},
    "finds": {"finds": "pattern, text, *, start=0, engine='walk'", "spots": "pattern, text, *, start=0, engine='table'",
              "pieces": "pattern, text, *, engine='walk'", "put_together": "pieces, texts"},
    "templates": {"read_template": "whatever", "filled": "pattern, way, text, parts",
                  "replaced": "pattern, text, template, *, engine='walk'"},
}

# For each class its arguments, its methods with theirs, and the fields of an object made of the things behind them.
CLASSES = {
    ("pattern", "Pattern"): ("tree", {"code": "", "names": ""}, ("tree", "groups")),
    ("ways", "Way"): ("begin, end, spans, choices", {"__eq__": "other", "__str__": ""},
                      ("begin", "end", "spans", "choices")),
    ("walker", "Walker"): ("pattern, text", {"first": "at, *, most=20000", "ways": "at, *, most=20000",
                                             "toil": "at, *, most=20000"}, ("text", "steps", "busy")),
    ("threads", "Threads"): ("pattern, text", {"first": "at", "ends": "at"}, ("entered",)),
    ("table", "Table"): ("pattern, *, most=40", {"stop": "text, at", "takes": "text", "kept": ""}, ()),
    ("scan", "Scan"): ("pattern, text", {"go": "", "back_to": "at"}, ("place",)),
    ("book", "Book"): ("most", {"pattern": "text", "kept": ""}, ("made",)),
    ("page", "Page"): ("pattern", {"put": "at, text", "change": "at, text", "drop": "at", "texts": "", "all_finds": ""},
                       ("sought",)),
    ("desk", "Desk"): ("", {"say": "whatever"}, ()),
}

NUMBERS = {("walker", "MOST_STEPS"): 20000, ("table", "MOST_STATES"): 40, ("compare", "MOST_PAIRS"): 200}
ENGINES = {"WALK": "walk", "THREADS": "threads", "TABLE": "table"}


def file_of(name):
    return importlib.import_module("atomglass." + name)


def arguments(thing):
    """The arguments as they are written, without the object's own."""
    told = [str(one) for one in inspect.signature(thing).parameters.values() if one.name != "self"]
    kinds = [one.kind for one in inspect.signature(thing).parameters.values() if one.name != "self"]
    by_name = [kind == inspect.Parameter.KEYWORD_ONLY for kind in kinds]
    if True in by_name:
        told.insert(by_name.index(True), "*")
    return ", ".join(told)


class Interface(unittest.TestCase):
    def test_functions(self):
        for file, functions in FUNCTIONS.items():
            for name, wanted in functions.items():
                self.assertEqual(arguments(getattr(file_of(file), name)), wanted, name)

    def test_classes_and_their_own_methods(self):
        for (file, name), (wanted, methods, _) in CLASSES.items():
            told = getattr(file_of(file), name)
            self.assertEqual(arguments(told), wanted, name)
            for method, its in methods.items():
                self.assertIn(method, vars(told), name)
                self.assertEqual(arguments(vars(told)[method]), its, (name, method))

    def test_fields_are_there_when_an_object_is_made(self):
        pattern = file_of("pattern").Pattern(("sign", "a"))
        made = {
            "Pattern": pattern, "Way": file_of("ways").Way(0, 1, (), ()), "Walker": file_of("walker").Walker(pattern, "a"),
            "Threads": file_of("threads").Threads(pattern, "a"), "Table": file_of("table").Table(pattern, most=3),
            "Scan": file_of("scan").Scan(pattern, "a"), "Book": file_of("book").Book(1), "Page": file_of("page").Page(pattern),
            "Desk": file_of("desk").Desk(),
        }
        for (_, name), (_, _, fields) in CLASSES.items():
            for field in fields:
                self.assertIn(field, vars(made[name]), name)

    def test_numbers(self):
        for (file, name), number in NUMBERS.items():
            self.assertEqual(getattr(file_of(file), name), number)

    def test_engines(self):
        for name, engine in ENGINES.items():
            self.assertEqual(getattr(file_of("finds"), name), engine)

    def test_what_is_behind_a_star_is_handed_in_by_name_alone(self):
        pattern = file_of("pattern").Pattern(("sign", "a"))
        for call in (
            lambda: file_of("walker").Walker(pattern, "a").first(0, 5), lambda: file_of("table").Table(pattern, 5),
            lambda: file_of("compare").compared(pattern, pattern, 5), lambda: file_of("finds").finds(pattern, "a", 0),
            lambda: file_of("finds").spots(pattern, "a", 0), lambda: file_of("finds").pieces(pattern, "a", "walk"),
            lambda: file_of("templates").replaced(pattern, "a", "", "walk"),
        ):
            with self.assertRaises(TypeError):
                call()


if __name__ == "__main__":
    unittest.main()
