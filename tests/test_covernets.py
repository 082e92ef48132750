import itertools
import random
import unittest

from glitchnet.counting import greatest
from glitchnet.covernets import cover_net, cover_shown, cover_wave
from glitchnet.covers import cover_greatest, cover_word, told_of
from glitchnet.errors import TooMany
from glitchnet.nets import is_net, settled
from glitchnet.networds import is_formula, words_of
from glitchnet.running import is_wave, waves_of
from glitchnet.wording import lets, word_of
from tests.helpers import (
    all_changes, all_products, all_rows, check_kept, cover_formula, formula_delays, in_a_moment, is_numbers, is_plain,
    made_change, made_covers, made_product)


def drawn_delays(chance, cover, most):
    return tuple(tuple(chance.randint(0, most) for sign in product if sign != "-") for product in cover[1])


class CoverWaveTest(unittest.TestCase):
    def check_wave(self, cover, delays, change):
        """The wave against a run of a net of the cover."""
        told = check_kept(self, cover_wave, cover, delays, change)
        self.assertTrue(is_numbers(told))
        self.assertTrue(is_wave(told))
        net, readings = cover_formula(cover)
        self.assertEqual(told, waves_of(net, formula_delays(net, readings, delays), change)[-1])
        self.assertTrue(lets(cover_word(cover, change), told))
        self.assertLessEqual(len(told[1]), cover_greatest(cover, change))
        return len(told[1])

    def test_some_waves(self):
        self.assertEqual(cover_wave((1, ("1",)), ((7,),), ((0,), (1,))), (0, (7,)))
        self.assertEqual(cover_wave((1, ("0", "1")), ((2,), (5,)), ((0,), (1,))), (1, (2, 5)))
        self.assertEqual(cover_wave((1, ("0", "1")), ((5,), (2,)), ((0,), (1,))), (1, ()))
        self.assertEqual(cover_wave((2, ("10",)), ((1, 4),), ((0, 0), (1, 1))), (0, (1, 4)))
        self.assertEqual(cover_wave((2, ("10",)), ((4, 1),), ((0, 0), (1, 1))), (0, ()))
        self.assertEqual(cover_wave((2, ("10",)), ((4, 4),), ((0, 0), (1, 1))), (0, ()))

    def test_drawn_covers(self):
        chance = random.Random(131)
        seen = set()
        for cover in made_covers(132, 250):
            for most in (0, 1, 4, 60, 10 ** 30):
                change = made_change(chance, cover[0])
                seen.add(self.check_wave(cover, drawn_delays(chance, cover, most), change))
        self.assertGreater(max(seen), 4)

    def test_small_covers_with_all_delays(self):
        for products in (("10",), ("1-", "01"), ("0-", "1-"), ("1-", "1-"), ("--", "10"), ("00", "-1")):
            cover = (2, products)
            literals = [len(product.replace("-", "")) for product in products]
            for lates in itertools.product(range(3), repeat=sum(literals)):
                rest, delays = list(lates), []
                for many in literals:
                    delays.append(tuple(rest[:many]))
                    rest = rest[many:]
                for change in all_changes(2):
                    self.check_wave(cover, tuple(delays), change)

    def test_without_literals_and_without_products(self):
        for many in range(1, 7):
            change = ((0,) * many, (1,) * many)
            self.assertEqual(cover_wave((many, ()), (), change), (0, ()))
            self.assertEqual(cover_wave((many, ("-" * many,)), ((),), change), (1, ()))
            self.check_wave((many, ("-" * many, "1" * many)), ((), (3,) * many), change)

    def test_great_delays(self):
        most = 10 ** 30
        self.assertEqual(cover_wave((1, ("0", "1")), ((most - 1,), (most,)), ((0,), (1,))), (1, (most - 1, most)))
        chance = random.Random(133)
        for cover in made_covers(134, 40):
            change = made_change(chance, cover[0])
            small = drawn_delays(chance, cover, 5)
            great = tuple(tuple(late * most for late in part) for part in small)
            first, times = cover_wave(cover, small, change)
            self.assertEqual(cover_wave(cover, great, change), (first, tuple(time * most for time in times)))

    def test_more_than_twelve_changes_are_told(self):
        rows = [row for row in all_products(6) if "-" not in row][20:36]
        cover = (6, tuple(rows))
        delays = tuple(tuple(2 * k if sign == "1" else 2 * k + 1 for sign in row) for k, row in enumerate(rows))
        told = cover_wave(cover, delays, ((0,) * 6, (1,) * 6))
        self.assertEqual(told, (0, tuple(range(32))))
        self.check_wave(cover, delays, ((0,) * 6, (1,) * 6))


class CoverShownTest(unittest.TestCase):
    def check_shown(self, cover, change):
        """None just where the word has no fro, else delays of 0, 1 and 2 that show it."""
        told = check_kept(self, cover_shown, cover, change)
        if not cover_word(cover, change)[2]:
            self.assertIsNone(told)
            return 0
        self.assertTrue(is_numbers(told))
        self.assertEqual([len(part) for part in told], [len(product.replace("-", "")) for product in cover[1]])
        self.assertLessEqual({late for part in told for late in part}, {0, 1, 2})
        wave = cover_wave(cover, told, change)
        self.assertTrue(word_of(wave)[2])
        net, readings = cover_formula(cover)
        self.assertEqual(waves_of(net, formula_delays(net, readings, told), change)[-1], wave)
        return 1

    def test_small_covers_at_all_changes(self):
        found = 0
        for many, most in ((1, 3), (2, 2)):
            for count in range(most + 1):
                for products in itertools.product(all_products(many), repeat=count):
                    found += sum(self.check_shown((many, products), change) for change in all_changes(many))
        self.assertGreater(found, 100)

    def test_drawn_covers(self):
        chance = random.Random(135)
        found = 0
        for cover in made_covers(136, 300):
            for turn in range(8):
                found += self.check_shown(cover, made_change(chance, cover[0]))
        self.assertGreater(found, 300)

    def test_sixteen_products_end_in_a_moment(self):
        chance = random.Random(137)
        for turn in range(10):
            cover = (6, tuple(made_product(chance, 6, 10) for product in range(16)))
            for change in (((0,) * 6, (1,) * 6), made_change(chance, 6)):
                in_a_moment(lambda: self.check_shown(cover, change))


class CoverNetTest(unittest.TestCase):
    def check_net(self, cover, changes):
        net = check_kept(self, cover_net, cover)
        self.assertTrue(is_plain(net))
        self.assertTrue(is_net(net))
        self.assertEqual(net[0], cover[0])
        self.assertTrue(is_formula(net))
        for row in all_rows(cover[0]):
            self.assertEqual(settled(net, row)[-1], told_of(cover, row))
        for change in changes:
            self.assertEqual(words_of(net, change)[-1], cover_word(cover, change))
            number = cover_greatest(cover, change)
            if number <= 12:
                self.assertEqual(greatest(net, change)[-1], number)
            else:
                with self.assertRaises(TooMany):
                    greatest(net, change)

    def test_small_covers_at_all_changes(self):
        for many, most in ((1, 3), (2, 2)):
            for count in range(most + 1):
                for products in itertools.product(all_products(many), repeat=count):
                    self.check_net((many, products), all_changes(many))

    def test_single_products(self):
        for many in (3, 4, 5, 6):
            for product in all_products(many)[::7]:
                self.check_net((many, (product,)), [((0,) * many, (1,) * many), ((0,) * many, (0,) * many)])

    def test_drawn_covers(self):
        chance = random.Random(138)
        for cover in made_covers(139, 120):
            self.check_net(cover, [made_change(chance, cover[0]) for turn in range(8)])

    def test_sixteen_products(self):
        chance = random.Random(140)
        for literals in (6, 8, 10):
            cover = (6, tuple(made_product(chance, 6, literals) for product in range(16)))
            in_a_moment(lambda: self.check_net(cover, [made_change(chance, 6) for turn in range(20)]))

    def test_a_number_up_to_twelve_is_never_refused(self):
        """Fifteen products that come and go, and one, wherever it stands, that holds both rows."""
        rows = [row for row in all_products(6) if "-" not in row][1:16]
        for place in range(16):
            cover = (6, tuple(rows[:place] + ["------"] + rows[place:]))
            self.check_net(cover, [((0,) * 6, (1,) * 6)])


if __name__ == "__main__":
    unittest.main()
