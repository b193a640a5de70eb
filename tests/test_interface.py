"""Names, arguments and places of what the document's interface lists."""

import importlib
import inspect
import unittest

AROUND = "*, around=(), manner='run'"
MOST = "most=2000"
FUNCTIONS = {
    "terms": ("is_name(thing)", "is_far(thing)", "is_term(thing)", "parts_of(term)", "spots_of(term)", "part_at(term, spot)",
              "with_part(term, spot, part)", "size_of(term)", "is_open(term, number)", "holes_in(term)"),
    "putting": ("shifted(term, many)", "put_in(body, terms)"),
    "termtexts": ("show_term(term)", "read_term(text)"),
    "items": ("is_item(thing)", "names_of(item)"),
    "itemtexts": ("show_item(item)", "read_item(text)"),
    "steps": ("step_at(scope, term, spot)", "walked(scope, term, way)"),
    "reckoning": (f"outcome_way(scope, term, *, {MOST})", f"head_way(scope, term, *, {MOST})", f"are_alike(scope, one, other, *, {MOST})"),
    "kinds": (f"kind_of(scope, term, {AROUND}, {MOST})", f"fit(scope, term, kind, {AROUND}, {MOST})"),
    "ends": ("calls_of(definitions)", "ends_of(definitions)"),
    "covers": (f"covered(scope, definition, *, {MOST})", f"lacks_holds(scope, definition, thing, *, {MOST})"),
    "judging": (f"judged(scope, item, *, {MOST})",),
    "papers": (f"kind_paper(scope, term, {AROUND}, {MOST})", f"fit_paper(scope, term, kind, {AROUND}, {MOST})"),
    "smaller": (f"kind_by(scope, term, thing, {AROUND})", f"fit_holds(scope, term, kind, thing, {AROUND})"),
    "itemchecks": ("paper_holds(scope, item, thing)",),
    "used": ("read_by(scope, item, paper)", "unfolded_by(scope, item, paper)"),
    "running": (f"run_of(scope, term, *, {MOST})",),
    "erasing": ("erased(scope, term, *, around=())", "erased_scope(scope)"),
    "bare": (f"bare_run(program, term, *, {MOST})",),
    "making": ("made(program, term)",),
    "machine": (f"run_made(blocks, *, {MOST})",),
    "holes": ("lifted(item)", f"wishes(scope, item, *, {MOST})", "opened(rows)", "filled(item, hole, term)"),
    "findings": ("finding_holds(thing)",),
}
CLASSES = {
    ("scopes", "Scope"): ("__init__(self, items=())", "item_of(self, name)", "with_item(self, item)", "__len__(self)", "__eq__(self, other)"),
    ("libraries", "Libraries"): (
        "__init__(self)", "begin(self, lib)", "put(self, lib, item)", "change(self, lib, item)", "out(self, lib, name)",
        "fill(self, lib, hole, term)", "picture(self, lib)", "back(self, many)", "libraries(self)", "typed(self, lib)", "holes(self, lib)",
        "paper(self, lib, name)", "scope(self, lib)", "pictures(self, lib)", "picture_of(self, lib, n)", "hangs_on(self, lib, name)",
        f"run(self, lib, term, *, {MOST})", "__len__(self)", "__eq__(self, other)"),
    ("desk", "Desk"): ("__init__(self)", "say(self, text)"),
}


class InterfaceTest(unittest.TestCase):
    def test_functions(self):
        for file, texts in FUNCTIONS.items():
            module = importlib.import_module("kindsbyworth." + file)
            for text in texts:
                function = getattr(module, text.split("(")[0])
                self.assertEqual(function.__module__, module.__name__)
                self.assertEqual(function.__name__ + str(inspect.signature(function)), text)

    def test_classes(self):
        for (file, name), texts in CLASSES.items():
            module = importlib.import_module("kindsbyworth." + file)
            made = getattr(module, name)
            self.assertEqual((made.__module__, made.__bases__), (module.__name__, (object,)))
            for text in texts:
                method = vars(made)[text.split("(")[0]]
                self.assertEqual(method.__name__ + str(inspect.signature(method)), text)


if __name__ == "__main__":
    unittest.main()
