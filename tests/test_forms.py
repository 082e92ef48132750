import itertools
import random
import unittest

from glitchnet.forms import form_at, is_form, parts_in, worth_of
from tests.helpers import (
    all_rows, check_kept, in_a_moment, inner_parts, made_form, made_forms, odd_things, others_of, places_in,
    plain_worth, size_of, tower_of)


def small_forms(many):
    """Forms of few parts, of all sorts."""
    leaves = [("in", k) for k in range(many)] + [("one",), ("nought",)]
    made = leaves + [("not", leaf) for leaf in leaves]
    for count in (2, 3):
        made += [(head, parts) for head in ("and", "or") for parts in itertools.product(leaves, repeat=count)]
    made += [("or", (("not", ("in", 0)),) * 4), ("and", (("in", 0),) * 4)]
    return made + [("not", form) for form in made[-6:]]


def walked_form(many, thing):
    """Whether it is a form, as the document tells it."""
    if thing.__class__ is not tuple or not thing or thing[0].__class__ is not str:
        return False
    head, rest = thing[0], thing[1:]
    if head in ("one", "nought"):
        return not rest
    if head not in ("in", "not", "and", "or") or len(rest) != 1:
        return False
    if head == "in":
        return rest[0].__class__ is int and rest[0] in range(many)
    if head == "not":
        return walked_form(many, rest[0])
    parts = rest[0]
    return parts.__class__ is tuple and len(parts) in (2, 3, 4) and all(walked_form(many, part) for part in parts)


class IsFormTest(unittest.TestCase):
    def told(self, many, thing):
        told = check_kept(self, is_form, many, thing)
        self.assertIsInstance(told, bool)
        return told

    def test_small_forms(self):
        for many in (1, 2, 3):
            for form in small_forms(many):
                self.assertIs(self.told(many, form), True)
                self.assertIs(self.told(6, form), True)

    def test_drawn_forms(self):
        for many, form in made_forms(231, 150):
            self.assertIs(self.told(many, form), True)
            for fewer in range(1, 7):
                self.assertIs(self.told(fewer, form), walked_form(fewer, form))

    def test_inputs_beyond(self):
        for many in range(1, 7):
            for k in range(-2, 9):
                for form in (("in", k), ("not", ("in", k)), ("and", (("one",), ("in", k)))):
                    self.assertIs(self.told(many, form), 0 <= k < many)
            self.assertIs(self.told(many, ("in", 10 ** 39)), False)

    def test_more_than_forty_parts_and_ten_within_one_another(self):
        chance = random.Random(232)
        for parts in (41, 60, 200, 900):
            self.assertIs(self.told(6, made_form(chance, 6, parts)), True)
        for deep in (10, 11, 15, 29):
            self.assertIs(self.told(6, tower_of(deep)), True)
            self.assertIs(self.told(1, tower_of(deep, 2)), False)

    def test_numbers_of_parts(self):
        leaf = ("in", 0)
        for head in ("and", "or"):
            for count in range(8):
                self.assertIs(self.told(1, (head, (leaf,) * count)), count in (2, 3, 4))

    def test_other_shapes(self):
        one, leaf = ("one",), ("in", 0)
        for thing in ((), ("in",), ("in", 0, 0), ("in", True), ("in", False), ("in", "0"), ("in", None), ("in", (0,)),
                      ("in", [0]), ("one", 1), ("one", ()), ("one", leaf),
                      ("nought", 0), "one", "nought", "in 0", ("not",),
                      ("not", one, one), ("not", (one,)), ("not", (one, one)), ("not", "one"), ("and",),
                      ("and", leaf),
                      ("and", leaf, leaf), ("and", [leaf, leaf]), ("or", {0: leaf, 1: leaf}), ("or", "in"),
                      ("or", (leaf, ["in", 0])), ["one"], ["in", 0], {"in": 0}, ("xor", (leaf, leaf)),
                      ("And", (leaf, leaf)),
                      ("zero",), ("and ", (leaf, leaf)), ("", (leaf, leaf)), (None,), (0,), (True,), (1, 0),
                      ("in", -1),
                      (("one",),), (one, one), ([], (leaf, leaf)), ({}, leaf), ([],), ({},), (("and",),
                      (leaf, leaf))):
            self.assertIs(self.told(6, thing), False)
            self.assertIs(self.told(6, ("not", thing)), False)
            self.assertIs(self.told(6, ("or", (leaf, thing))), False)

    def test_one_thing_put_otherwise(self):
        chance = random.Random(233)
        found = {True: 0, False: 0}
        for many, form in made_forms(234, 80, 3, 12):
            others = others_of(form)
            for other in chance.sample(others, min(len(others), 60)):
                right = walked_form(many, other)
                self.assertIs(self.told(many, other), right)
                found[right] += 1
        self.assertGreater(min(found.values()), 100)

    def test_of_anything(self):
        for thing in odd_things():
            for other in (thing, ("not", thing), ("and", thing), ("and", (thing, thing)), ("or", (("one",), thing)),
                          (thing, 0), (thing,), (thing, (("one",), ("one",)))):
                self.assertIs(self.told(6, other), walked_form(6, other))
            self.assertIs(self.told(6, ("in", thing)), thing.__class__ is int and thing in range(6))

    def test_wide_things_end_in_a_moment(self):
        form = ("in", 5)
        for level in range(12):
            form = ("and", (form, form))
        self.assertIs(in_a_moment(lambda: is_form(6, form)), True)
        self.assertIs(in_a_moment(lambda: is_form(5, form)), False)


class WorthTest(unittest.TestCase):
    def test_against_all_rows(self):
        cases = [(many, form) for many in (1, 2, 3) for form in small_forms(many)] + made_forms(235, 80)
        for many, form in cases:
            for row in all_rows(many):
                told = worth_of(form, row)
                self.assertIs(told.__class__, int)
                self.assertEqual(told, plain_worth(form, row))
        check_kept(self, worth_of, cases[-1][1], (0,) * cases[-1][0])

    def test_towers(self):
        for deep in (10, 11, 28):
            for row in all_rows(6):
                self.assertEqual(worth_of(tower_of(deep), row), plain_worth(tower_of(deep), row))

    def test_some_worths(self):
        form = ("and", (("in", 0), ("or", (("not", ("in", 1)), ("in", 2), ("nought",))), ("one",)))
        self.assertEqual([worth_of(form, row) for row in all_rows(3)], [0, 0, 0, 0, 1, 1, 0, 1])


class PlacesTest(unittest.TestCase):
    def test_parts_in(self):
        self.assertEqual(parts_in(("in", 3)), 1)
        self.assertEqual(parts_in(("one",)), 1)
        self.assertEqual(parts_in(("not", ("nought",))), 2)
        self.assertEqual(parts_in(("and", (("in", 0), ("in", 0)))), 3)
        self.assertEqual(parts_in(("or", (("in", 0), ("not", ("in", 0)), ("one",), ("and", (("one",),
        ("one",)))))), 8)
        chance = random.Random(236)
        for parts in list(range(1, 45)) + [100, 700]:
            told = check_kept(self, parts_in, made_form(chance, 6, parts))
            self.assertIs(told.__class__, int)
            self.assertEqual(told, parts)
        for many, form in made_forms(237, 60):
            self.assertEqual(parts_in(form), size_of(form))

    def test_form_at_each_place(self):
        for many, form in made_forms(238, 80):
            places = places_in(form)
            self.assertEqual(len(places), parts_in(form))
            for place, part in places:
                self.assertEqual(check_kept(self, form_at, form, place), part)
                count = len(inner_parts(part))
                for number in (-2, -1, count, count + 1, 10 ** 30):
                    self.assertIsNone(form_at(form, place + (number,)))
                    self.assertIsNone(form_at(form, place + (number, 0)))

    def test_the_whole(self):
        for many, form in made_forms(239, 20):
            self.assertEqual(form_at(form, ()), form)

    def test_no_such_place(self):
        form = ("and", (("not", ("in", 0)), ("one",)))
        self.assertEqual(form_at(form, (0, 0)), ("in", 0))
        for place in ((2,), (-1,), (0, 1), (0, -1), (0, 0, 0), (1, 0), (0, 0, 0, 0), (5, 5), (10 ** 39,)):
            self.assertIsNone(form_at(form, place))


if __name__ == "__main__":
    unittest.main()
