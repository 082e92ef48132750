import itertools
import random
import unittest

from glitchnet.counting import gate_greatest, greatest
from glitchnet.errors import TooMany
from glitchnet.formnets import form_greatest, form_shown, form_wave, form_word
from glitchnet.nets import settled
from glitchnet.networds import is_formula, words_of
from glitchnet.running import is_wave, waves_of
from glitchnet.wording import is_word, lets, word_of
from tests.helpers import (
    all_changes, check_kept, depth_of, form_formula, in_a_moment, inputs_in, is_numbers, made_change, made_form,
    made_forms, tower_of, with_delays, within_ten)
from tests.test_forms import small_forms


def net_greatest(net, change):
    """The greatest number of a net's last gate, gate by gate, never refused."""
    many, gates = net
    firsts = settled(net, change[0])
    numbers = [int(before != after) for before, after in zip(*change)]
    for table, ins in gates:
        numbers.append(gate_greatest(table, tuple(firsts[wire] for wire in ins), tuple(numbers[wire] for wire in ins)))
    return numbers[-1]


def flashing(count):
    """A form whose number is great: the or of ands that may come and go, each alone."""
    part = ("and", (("in", 0), ("not", ("in", 0))))
    form = part
    while count > 4:
        form = ("or", (form, part, part, part))
        count -= 3
    return ("or", (form,) + (part,) * (count - 1))


class WordsTest(unittest.TestCase):
    def check_form(self, many, form, changes):
        """Word and number against those of a net of the form."""
        net, readings = form_formula(many, form)
        self.assertTrue(is_formula(net))
        numbers = set()
        for change in changes:
            word = form_word(form, change)
            number = form_greatest(form, change)
            self.assertTrue(is_word(word))
            self.assertEqual(word, words_of(net, change)[-1])
            self.assertIs(number.__class__, int)
            self.assertEqual(number, net_greatest(net, change))
            self.assertEqual(word[2], number > 1)
            numbers.add(number)
        check_kept(self, form_word, form, changes[-1])
        check_kept(self, form_greatest, form, changes[-1])
        return max(numbers)

    def test_small_forms_at_all_changes(self):
        for many in (1, 2):
            for form in small_forms(many):
                self.check_form(many, form, all_changes(many))

    def test_forms_of_two_levels(self):
        leaves = [("in", 0), ("not", ("in", 0)), ("one",), ("in", 1), ("not", ("in", 1))]
        inner = [(head, parts) for head in ("and", "or") for parts in itertools.combinations(leaves, 2)]
        for head in ("and", "or"):
            for parts in itertools.combinations(inner, 2):
                self.check_form(2, (head, parts), all_changes(2))

    def test_drawn_forms(self):
        chance = random.Random(241)
        numbers = set()
        for many, form in made_forms(242, 250):
            numbers.add(self.check_form(many, form, [made_change(chance, many) for turn in range(8)]))
        self.assertGreater(max(numbers), 7)

    def test_forms_of_forty_parts(self):
        chance = random.Random(243)
        for turn in range(40):
            many = chance.randint(1, 6)
            form = within_ten(chance, many, 40)
            self.check_form(many, form, [made_change(chance, many) for turn in range(5)])

    def test_towers_of_ten(self):
        for deep in (9, 10, 11, 15):
            for many in (1, 2, 6):
                form = tower_of(deep, many)
                self.assertEqual(depth_of(form), deep)
                changes = all_changes(many) if many < 6 else [((0,) * 6, (1,) * 6), ((0, 1) * 3, (1, 0) * 3)]
                self.check_form(many, form, changes)

    def test_one_and_nought_among_the_parts(self):
        leaf, away = ("in", 0), ("not", ("in", 0))
        for count in (2, 3):
            for parts in itertools.product((leaf, away, ("one",), ("nought",)), repeat=count):
                for head in ("and", "or"):
                    self.check_form(1, (head, parts), all_changes(1))

    def test_however_great(self):
        change = ((0,), (1,))
        for count in (2, 7, 8, 12, 30, 100):
            form = flashing(count)
            self.assertEqual(form_word(form, change), (0, 0, True))
            self.assertEqual(form_greatest(form, change), 2 * count)
            self.assertEqual(form_greatest(("not", form), change), 2 * count)
        net, readings = form_formula(1, flashing(8))
        with self.assertRaises(TooMany):
            greatest(net, change)
        self.assertEqual(form_greatest(flashing(8), change), 16)

    def test_forms_beyond_forty_parts(self):
        chance = random.Random(244)
        for parts in (41, 80, 150):
            form = made_form(chance, 4, parts)
            in_a_moment(lambda: self.check_form(4, form, [made_change(chance, 4) for turn in range(3)]))

    def test_some_words(self):
        up = ((0,), (1,))
        self.assertEqual(form_word(("in", 0), up), (0, 1, False))
        self.assertEqual(form_word(("not", ("in", 0)), up), (1, 0, False))
        self.assertEqual(form_word(("one",), up), (1, 1, False))
        self.assertEqual(form_word(("nought",), up), (0, 0, False))
        self.assertEqual(form_word(("and", (("in", 0), ("not", ("in", 0)))), up), (0, 0, True))
        self.assertEqual(form_greatest(("and", (("in", 0), ("not", ("in", 0)))), up), 2)
        self.assertEqual(form_greatest(("and", (("in", 0), ("not", ("in", 0)), ("nought",))), up), 0)


class WaveTest(unittest.TestCase):
    def check_wave(self, many, form, delays, change):
        """The wave against a run of a net of the form."""
        told = check_kept(self, form_wave, form, delays, change)
        self.assertTrue(is_numbers(told))
        self.assertTrue(is_wave(told))
        net, readings = form_formula(many, form)
        self.assertEqual(told, waves_of(net, with_delays(net, readings, delays), change)[-1])
        self.assertTrue(lets(form_word(form, change), told))
        self.assertLessEqual(len(told[1]), form_greatest(form, change))
        return len(told[1])

    def test_drawn_forms(self):
        chance = random.Random(245)
        seen = set()
        for many, form in made_forms(246, 200):
            for most in (0, 1, 3, 50, 10 ** 30):
                delays = tuple(chance.randint(0, most) for k in inputs_in(form))
                seen.add(self.check_wave(many, form, delays, made_change(chance, many)))
        self.assertGreater(max(seen), 3)

    def test_small_forms_with_all_delays(self):
        first, second = ("in", 0), ("in", 1)
        for form in (first, ("not", first), ("and", (first, ("not", second))),
                     ("or", (first, ("not", first), second)),
                     ("and", (("or", (first, second)), ("not", first))), ("and", (first, ("one",), ("not", first)))):
            for delays in itertools.product(range(4), repeat=len(inputs_in(form))):
                for change in all_changes(2):
                    self.check_wave(2, form, delays, change)

    def test_delays_go_in_the_order_that_is_written(self):
        form = ("and", (("in", 0), ("or", (("not", ("in", 1)), ("nought",)))))
        change = ((0, 0), (1, 1))
        self.assertEqual(form_wave(form, (2, 5), change), (0, (2, 5)))
        self.assertEqual(form_wave(form, (5, 2), change), (0, ()))
        self.assertEqual(form_wave(form, (2, 2), change), (0, ()))

    def test_without_inputs(self):
        for form, worth in ((("one",), 1), (("nought",), 0), (("not", ("one",)), 0), (("or", (("one",),
                            ("nought",))), 1)):
            self.assertEqual(form_wave(form, (), ((0,), (1,))), (worth, ()))

    def test_great_delays(self):
        chance = random.Random(247)
        most = 10 ** 30
        for many, form in made_forms(248, 60):
            small = tuple(chance.randint(0, 6) for k in inputs_in(form))
            change = made_change(chance, many)
            first, times = form_wave(form, small, change)
            great = tuple(late * most for late in small)
            self.assertEqual(form_wave(form, great, change), (first, tuple(time * most for time in times)))

    def test_as_often_as_the_greatest_number_tells(self):
        for count in (3, 13, 90):
            delays = tuple(late for k in range(count) for late in (2 * k, 2 * k + 1))
            told = form_wave(flashing(count), delays, ((0,), (1,)))
            self.assertEqual(told, (0, tuple(range(2 * count))))

    def test_never_refused(self):
        """More than two hundred changes, as no net tells them."""
        delays = tuple(range(240))
        self.assertEqual(form_wave(flashing(120), delays, ((0,), (1,))), (0, delays))

    def test_all_numbers_are_shown(self):
        """Of small forms the greatest number is come to by some delays."""
        for many, form in made_forms(249, 60, 3, 9):
            inputs = inputs_in(form)
            if len(inputs) > 5:
                continue
            for change in [((0,) * many, (1,) * many), ((0, 1, 0)[:many], (1, 0, 1)[:many])]:
                seen = {len(form_wave(form, lates, change)[1])
                        for lates in itertools.product(range(len(inputs) + 1), repeat=len(inputs))}
                number = form_greatest(form, change)
                self.assertEqual(seen, set(range(number & 1, number + 1, 2)))


class ShownTest(unittest.TestCase):
    def check_shown(self, form, change):
        """None just where the word has no fro, else delays of 0, 1 and 2 that show it."""
        told = check_kept(self, form_shown, form, change)
        if not form_word(form, change)[2]:
            self.assertIsNone(told)
            return 0
        self.assertTrue(is_numbers(told))
        self.assertEqual(len(told), len(inputs_in(form)))
        self.assertLessEqual(set(told), {0, 1, 2})
        self.assertTrue(word_of(form_wave(form, told, change))[2])
        return 1

    def test_small_forms(self):
        for many in (1, 2):
            for form in small_forms(many):
                for change in all_changes(many):
                    self.check_shown(form, change)

    def test_drawn_forms(self):
        chance = random.Random(250)
        found = 0
        for many, form in made_forms(251, 300):
            for turn in range(6):
                found += self.check_shown(form, made_change(chance, many))
        self.assertGreater(found, 200)

    def test_forms_of_forty_parts_end_in_a_moment(self):
        chance = random.Random(252)
        found = 0
        for turn in range(60):
            form = within_ten(chance, 6, 40)
            found += in_a_moment(lambda: self.check_shown(form, ((0,) * 6, (1,) * 6)))
            found += in_a_moment(lambda: self.check_shown(form, made_change(chance, 6)))
        self.assertGreater(found, 20)
        for count in (12, 60):
            self.assertEqual(in_a_moment(lambda: self.check_shown(flashing(count), ((0,), (1,)))), 1)

    def test_ands_and_ors_of_four_parts(self):
        wide = tuple(("or", (("in", k), ("not", ("in", k)))) for k in range(4))
        for head in ("and", "or"):
            for change in all_changes(4)[::7]:
                self.check_shown((head, wide), change)

    def test_towers(self):
        for deep in (10, 11, 20):
            for change in all_changes(2):
                self.check_shown(tower_of(deep, 2), change)


if __name__ == "__main__":
    unittest.main()
