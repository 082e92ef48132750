"""The names, arguments and places of the interface."""

import ast
import importlib
import inspect
import pathlib
import unittest

PACKAGE = pathlib.Path(__file__).resolve().parent.parent / "glitchnet"

FUNCTIONS = {
    "nets": {
        "is_net": ["thing"], "is_row": ["many", "thing"], "is_change": ["many", "thing"], "rows_of": ["many"],
        "settled": ["net", "row"]},
    "nettexts": {
        "show_net": ["net"], "read_net": ["text"], "show_change": ["change"], "read_change": ["many", "text"]},
    "delaying": {"is_delays": ["net", "thing"], "no_delays": ["net"], "readings_of": ["net"]},
    "running": {
        "is_wave": ["thing"], "worth_at": ["wave", "time"], "waves_of": ["net", "delays", "change"]},
    "wording": {
        "is_word": ["thing"], "word_of": ["wave"], "lets": ["word", "wave"], "show_word": ["word"],
        "read_word": ["text"]},
    "pairing": {"pairs_of": ["word"], "gate_word": ["table", "words"]},
    "networds": {"words_of": ["net", "change"], "is_formula": ["net"]},
    "showing": {"shown": ["net", "change", "wire"]},
    "counting": {"gate_greatest": ["table", "firsts", "numbers"], "greatest": ["net", "change"]},
    "ordering": {"delays_for": ["net", "change", "wire", "many"]},
    "ledgers": {"ledger_of": ["net", "change"], "ledger_holds": ["net", "change", "thing"]},
    "products": {
        "is_product": ["many", "thing"], "holds_row": ["product", "row"], "holds_all": ["product", "other"],
        "meet": ["product", "other"], "cube_of": ["change"], "products_holding": ["product"]},
    "covers": {
        "is_cover": ["thing"], "told_of": ["cover", "row"], "cover_word": ["cover", "change"],
        "cover_greatest": ["cover", "change"], "judged": ["cover", "change"], "open_pairs": ["cover"]},
    "covernets": {
        "cover_wave": ["cover", "delays", "change"], "cover_shown": ["cover", "change"], "cover_net": ["cover"]},
    "wishes": {
        "is_wish": ["thing"], "is_free": ["wish", "cover"], "is_allowed": ["wish", "product"],
        "greatest_allowed": ["wish"], "asked_of": ["wish"]},
    "leasts": {"least_free": ["wish"]},
    "leastchecks": {"shown_by": ["wish", "given", "thing"], "reasons_holds": ["wish", "asked", "thing"]},
    "mending": {"mended": ["cover", "changes"], "neighbours": ["many"]},
    "forms": {
        "is_form": ["many", "thing"], "worth_of": ["form", "row"], "parts_in": ["form"],
        "form_at": ["form", "place"]},
    "formnets": {
        "form_word": ["form", "change"], "form_greatest": ["form", "change"],
        "form_wave": ["form", "delays", "change"], "form_shown": ["form", "change"]},
    "turns": {
        "turns_to": ["rule", "old", "new"], "turned": ["form", "turn"], "turns_holds": ["one", "other", "thing"]},
    "sides": {"side_by_side": ["many", "one", "other"]},
    "formtexts": {"show_form": ["form"], "read_form": ["many", "text"]},
    "bounding": {"is_bounds": ["net", "thing"], "within": ["net", "change", "bounds", "wire"]},
    "findings": {"finding_holds": ["thing"]},
}

CLASSES = {
    "errors": {
        "NetError": {}, "NoText": {}, "TooMany": {}, "NotFormula": {}, "NoTurn": {}, "NoForms": {}, "NoRow": {}},
    "machines": {
        "Machine": {"__init__": ["net", "delays", "change"], "time": [], "worths": [], "step": []}},
    "desk": {"Desk": {"__init__": [], "say": ["text"]}},
}


def defined_in(module):
    """The functions and classes that stand in a file, by their names."""
    tree = ast.parse((PACKAGE / (module + ".py")).read_text())
    return {node.name: node for node in tree.body if isinstance(node, (ast.FunctionDef, ast.ClassDef))}


def arguments_of(function):
    return list(inspect.signature(function).parameters)


class InterfaceTest(unittest.TestCase):
    def test_functions(self):
        for module, functions in FUNCTIONS.items():
            loaded = importlib.import_module("glitchnet." + module)
            for name, arguments in functions.items():
                self.assertIsInstance(defined_in(module)[name], ast.FunctionDef)
                self.assertEqual(arguments_of(getattr(loaded, name)), arguments)

    def test_classes(self):
        for module, classes in CLASSES.items():
            loaded = importlib.import_module("glitchnet." + module)
            for name, methods in classes.items():
                self.assertIsInstance(defined_in(module)[name], ast.ClassDef)
                for method, arguments in methods.items():
                    self.assertIn(method, vars(getattr(loaded, name)))
                    self.assertEqual(arguments_of(vars(getattr(loaded, name))[method]), ["self"] + arguments)


if __name__ == "__main__":
    unittest.main()
