import random
import unittest

from glitchnet.errors import NetError, NoForms
from glitchnet.formnets import form_wave
from glitchnet.networds import words_of
from glitchnet.sides import side_by_side
from glitchnet.turns import turned
from glitchnet.wording import word_of
from tests.helpers import (
    alike_forms, all_changes, all_rows, check_kept, form_formula, in_a_moment, inputs_in, is_numbers, made_forms,
    plain_worth, size_of, within_ten)
from tests.test_turns import walked_turns

FIRST, AWAY = ("in", 0), ("not", ("in", 0))
FLASH = ("and", (FIRST, AWAY))


def first_change(many, one, other):
    """The first change at which the other one alone goes to and fro, by nets of both, or None."""
    net, readings = form_formula(many, one)
    other_net, other_readings = form_formula(many, other)
    for change in sorted(all_changes(many)):
        if words_of(other_net, change)[-1][2] and not words_of(net, change)[-1][2]:
            return change
    return None


class SidesTest(unittest.TestCase):
    def refused(self, many, one, other):
        with self.assertRaises(NetError) as held:
            side_by_side(many, one, other)
        self.assertIs(held.exception.__class__, NoForms)

    def check_pair(self, many, one, other):
        """What is told of two forms, whatever they are."""
        if any(plain_worth(one, row) != plain_worth(other, row) for row in all_rows(many)):
            self.refused(many, one, other)
            return "unlike"
        told = check_kept(self, side_by_side, many, one, other)
        change = first_change(many, one, other)
        if change is None:
            self.assertIsNone(told)
            return "no more"
        self.assertTrue(is_numbers(told))
        self.assertEqual(len(told), 2)
        self.assertEqual(told[0], change)
        self.assertEqual(len(told[1]), len(inputs_in(other)))
        self.assertGreaterEqual(min(told[1]), 0)
        self.assertTrue(word_of(form_wave(other, told[1], change))[2])
        return "more"

    def test_alike_forms_both_ways_about(self):
        kinds = []
        for many, one, other in alike_forms(301, 120):
            kinds.append((self.check_pair(many, one, other), self.check_pair(many, other, one)))
        for both in (("more", "no more"), ("no more", "more"), ("no more", "no more"), ("more", "more")):
            self.assertIn(both, kinds)

    def test_unlike_forms(self):
        chance = random.Random(302)
        kinds = []
        for many, form in made_forms(303, 80, 3, 8):
            other = within_ten(chance, many, chance.randint(1, 8))
            kinds.append(self.check_pair(many, form, other))
        self.assertGreater(kinds.count("unlike"), 40)
        self.refused(2, ("in", 0), ("in", 1))
        self.refused(1, ("one",), ("nought",))
        self.refused(4, ("and", tuple(("in", k) for k in range(4))), ("nought",))

    def test_alike_by_the_rows_of_so_many_inputs_alone(self):
        self.assertEqual(side_by_side(1, ("nought",), FLASH)[0], ((0,), (1,)))

    def test_some_forms(self):
        self.assertIsNone(side_by_side(1, FLASH, FLASH))
        self.assertIsNone(side_by_side(1, FLASH, ("nought",)))
        told = side_by_side(1, ("nought",), FLASH)
        self.assertEqual(told[0], ((0,), (1,)))
        self.assertTrue(word_of(form_wave(FLASH, told[1], told[0]))[2])
        one = ("and", (("in", 0), ("or", (("in", 1), ("in", 2)))))
        other = ("or", (("and", (("in", 0), ("in", 1))), ("and", (("in", 0), ("in", 2)))))
        self.assertEqual(side_by_side(3, one, other)[0], ((0, 1, 1), (1, 0, 1)))
        self.assertIsNone(side_by_side(3, other, one))

    def test_the_first_such_change(self):
        """A form that goes to and fro at all changes of an input is seen at the first of them."""
        other = ("or", (("and", (("in", 3), ("not", ("in", 3)))), ("in", 0)))
        self.assertEqual(side_by_side(4, ("in", 0), other)[0], ((0, 0, 0, 0), (0, 0, 0, 1)))
        other = ("or", (("and", (("in", 0), ("not", ("in", 0)))), ("in", 3)))
        self.assertEqual(side_by_side(4, ("in", 3), other)[0], ((0, 0, 0, 0), (1, 0, 0, 0)))

    def test_behind_a_turn_nothing_more_is_shown(self):
        chance = random.Random(304)
        for many, form in made_forms(305, 30, 3, 30):
            turns = walked_turns(form)
            for turn in chance.sample(turns, min(len(turns), 6)):
                if size_of(form) <= 36:
                    self.assertIsNone(side_by_side(many, form, turned(form, turn)))

    def test_forms_of_forty_parts_end_in_a_moment(self):
        chance = random.Random(306)
        for turn in range(8):
            form = within_ten(chance, 4, 40)
            self.assertIsNone(in_a_moment(lambda: side_by_side(4, form, form)))
        for many, one, other in alike_forms(307, 30, 4, 40):
            in_a_moment(lambda: self.check_pair(4, one, other))


if __name__ == "__main__":
    unittest.main()
