import itertools
import random
import unittest

from glitchnet.counting import gate_greatest, greatest
from glitchnet.covers import cover_greatest, cover_word, is_cover, judged, open_pairs, told_of
from glitchnet.errors import TooMany
from glitchnet.networds import words_of
from glitchnet.wording import is_word
from tests.helpers import (
    all_changes, all_products, all_rows, check_kept, cover_formula, in_a_moment, is_numbers, made_change, made_covers,
    made_product, odd_things, rows_in, rows_of_cover)


def formula_number(net, change):
    """The greatest number of a net's last gate, never refused."""
    words = words_of(net, change)
    numbers = [int(before != after) for before, after in zip(*change)]
    for table, ins in net[1]:
        numbers.append(gate_greatest(table, tuple(words[wire][0] for wire in ins), tuple(numbers[wire] for wire in ins)))
    return numbers[-1]


def walked_verdict(cover, change):
    """How a cover is judged, by the rows that its products hold."""
    held = [rows_in(product) for product in cover[1]]
    on_the_way = frozenset(itertools.product(*[{before, after} for before, after in zip(*change)]))
    ones = [row for row in change if row in rows_of_cover(cover)]
    if len(ones) == 2:
        for k, rows in enumerate(held):
            if rows.issuperset(change):
                return ("held", k)
        return ("gap",)
    for k, rows in enumerate(held):
        if rows & on_the_way and not any(row in rows for row in ones):
            return ("meets", k)
    return ("clear",)


class IsCoverTest(unittest.TestCase):
    def told(self, thing):
        told = check_kept(self, is_cover, thing)
        self.assertIsInstance(told, bool)
        return told

    def test_covers(self):
        for many in range(1, 7):
            self.assertIs(self.told((many, ())), True)
            self.assertIs(self.told((many, ("-" * many,))), True)
            self.assertIs(self.told((many, ("0" * many, "1" * many, "0" * many))), True)
            self.assertIs(self.told((many, tuple(all_products(many)))), True)
        for cover in made_covers(111, 100):
            self.assertIs(self.told(cover), True)
        self.assertIs(self.told((2, ("0-",) * 19000)), True)

    def test_other_products(self):
        for products in (("0",), ("0-1",), ("0-", "1"), ("0-", "-0-"), ("",), ("02",), ("0 ",), ("--", "-x"), ("-\n",),
                         (None,), (0,), (("0", "-"),), (["0", "-"],), ({},), ("0-", None), ("0-", True), ("0-", ()),
                         ("0-",) * 18000 + ("0",)):
            self.assertIs(self.told((2, products)), False)

    def test_other_numbers(self):
        for many in (0, 7, -1, 8, True, False, None, "1", (1,), [1], 10 ** 39):
            for products in ((), ("-",), ("",), ("0" * 7,)):
                self.assertIs(self.told((many, products)), False)

    def test_other_shapes(self):
        for thing in ((1,), (1, (), ()), ((), 1), [1, ()], (1, []), (1, ["0"]), (1, "0"), (1, ""), (1, None), (1, {}),
                      (1, {"0": "1"}), (1, 0), {1: ()}, {1: 0, (): 0}, ("0", "1"), (1, (("0",),))):
            self.assertIs(self.told(thing), False)

    def test_of_anything(self):
        for thing in odd_things():
            self.assertIs(self.told(thing), False)
            self.assertIs(self.told((1, thing)), thing.__class__ is tuple and thing in ((), ("0", "1")))
            self.assertIs(self.told((thing, ())), thing.__class__ is int and thing in (1, 2))
            self.assertIs(self.told((2, ("1-", thing))), isinstance(thing, str) and thing == "01")


class ToldOfTest(unittest.TestCase):
    def test_all_rows(self):
        for cover in made_covers(112, 120):
            ones = rows_of_cover(cover)
            for row in all_rows(cover[0]):
                told = check_kept(self, told_of, cover, row)
                self.assertIs(told.__class__, int)
                self.assertEqual(told, int(row in ones))

    def test_without_products_and_without_literals(self):
        for many in range(1, 7):
            for row in all_rows(many):
                self.assertEqual(told_of((many, ()), row), 0)
                self.assertEqual(told_of((many, ("-" * many,)), row), 1)
                self.assertEqual(told_of((many, ("0" * many, "-" * many)), row), 1)


class AtChangesTest(unittest.TestCase):
    def check_change(self, cover, change, net):
        """Word and greatest number of the formula, the verdict, and what it says of the word."""
        word = cover_word(cover, change)
        self.assertTrue(is_word(word))
        self.assertEqual(word, words_of(net, change)[-1])
        number = cover_greatest(cover, change)
        self.assertIs(number.__class__, int)
        self.assertEqual(number, formula_number(net, change))
        verdict = judged(cover, change)
        self.assertIs(verdict.__class__, tuple)
        self.assertEqual(verdict, walked_verdict(cover, change))
        self.assertTrue(all(part.__class__ is int for part in verdict[1:]))
        self.assertIs(word[2], verdict[0] in ("gap", "meets"))
        return verdict[0]

    def check_cover(self, cover, changes):
        net, readings = cover_formula(cover)
        return {self.check_change(cover, change, net) for change in changes}

    def test_small_covers_at_all_changes(self):
        found = set()
        for many, most in ((1, 3), (2, 2)):
            for count in range(most + 1):
                for products in itertools.product(all_products(many), repeat=count):
                    found |= self.check_cover((many, products), all_changes(many))
        self.assertEqual(found, {"held", "gap", "meets", "clear"})

    def test_drawn_covers_of_three_inputs_at_all_changes(self):
        for cover in made_covers(113, 25, 3, 5):
            self.check_cover(cover, all_changes(cover[0]))

    def test_drawn_covers(self):
        chance = random.Random(114)
        found = set()
        for cover in made_covers(115, 150):
            found |= self.check_cover(cover, [made_change(chance, cover[0]) for turn in range(12)])
        self.assertEqual(found, {"held", "gap", "meets", "clear"})

    def test_some_verdicts(self):
        cover = (3, ("11-", "0-1"))
        self.assertEqual(judged(cover, ((1, 1, 1), (0, 1, 1))), ("gap",))
        self.assertEqual(judged((3, cover[1] + ("-11",)), ((1, 1, 1), (0, 1, 1))), ("held", 2))
        self.assertEqual(judged((3, cover[1] + ("-11", "-11")), ((1, 1, 1), (0, 1, 1))), ("held", 2))
        self.assertEqual(judged(cover, ((0, 1, 0), (1, 0, 0))), ("meets", 0))
        self.assertEqual(judged((3, ("0-1", "11-", "11-")), ((0, 1, 0), (1, 0, 0))), ("meets", 1))
        self.assertEqual(judged(cover, ((0, 0, 0), (0, 0, 1))), ("clear",))
        self.assertEqual(judged(cover, ((0, 0, 0), (1, 1, 1))), ("meets", 1))
        self.assertEqual(judged(cover, ((1, 0, 1), (1, 0, 0))), ("clear",))
        self.assertEqual(judged((3, ()), ((0, 0, 0), (1, 1, 1))), ("clear",))
        self.assertEqual(judged((3, ("---", "---")), ((0, 0, 0), (1, 1, 1))), ("held", 0))

    def test_alike_rows(self):
        for cover in made_covers(116, 60):
            for row in all_rows(cover[0])[:16]:
                verdict = judged(cover, (row, row))
                held = [k for k, product in enumerate(cover[1]) if row in rows_in(product)]
                self.assertEqual(verdict, ("held", held[0]) if held else ("clear",))
                self.assertEqual(cover_word(cover, (row, row)), (int(bool(held)), int(bool(held)), False))
                self.assertEqual(cover_greatest(cover, (row, row)), 0)

    def test_kept(self):
        chance = random.Random(117)
        for cover in made_covers(118, 40):
            change = made_change(chance, cover[0])
            for asked in (cover_word, cover_greatest, judged):
                check_kept(self, asked, cover, change)
            check_kept(self, open_pairs, cover)

    def test_numbers_above_twelve(self):
        rows = [row for row in all_products(6) if "-" not in row][1:-1]
        for count in (5, 6, 7, 16):
            cover = (6, tuple(rows[7:7 + count]))
            change = ((0,) * 6, (1,) * 6)
            self.assertEqual(cover_greatest(cover, change), 2 * count)
            net, readings = cover_formula(cover)
            self.assertEqual(formula_number(net, change), 2 * count)
            if count > 6:
                with self.assertRaises(TooMany):
                    greatest(net, change)
        cover = (6, ("000000",) + tuple(rows[:14]) + ("111111",))
        self.assertEqual(cover_greatest(cover, ((0,) * 6, (1,) * 6)), 30)
        self.assertEqual(cover_greatest((6, cover[1][:-1] + ("------",)), ((0,) * 6, (1,) * 6)), 0)

    def test_sixteen_products_of_six_literals_end_in_a_moment(self):
        chance = random.Random(119)
        for turn in range(4):
            cover = (6, tuple(made_product(chance, 6, 10) for product in range(16)))
            changes = [((0,) * 6, (1,) * 6), ((0, 1) * 3, (1, 0) * 3)] + [made_change(chance, 6) for more in range(10)]
            in_a_moment(lambda: [
                asked(cover, change) for asked in (cover_word, cover_greatest, judged) for change in changes])
            self.check_cover(cover, changes)
            in_a_moment(lambda: open_pairs(cover))


class OpenPairsTest(unittest.TestCase):
    def walked(self, cover):
        held = [rows_in(product) for product in cover[1]]
        ones = sorted(rows_of_cover(cover))
        return tuple((a, b) for a in ones for b in ones if a < b
                     and sum(one != other for one, other in zip(a, b)) == 1
                     and not any(a in rows and b in rows for rows in held))

    def test_made_covers(self):
        found = 0
        for cover in made_covers(120, 150):
            told = check_kept(self, open_pairs, cover)
            self.assertTrue(is_numbers(told))
            self.assertEqual(told, self.walked(cover))
            self.assertEqual(list(told), sorted(set(told)))
            found += len(told)
        self.assertGreater(found, 200)

    def test_some_pairs(self):
        self.assertEqual(open_pairs((3, ("11-", "0-1"))), (((0, 1, 1), (1, 1, 1)),))
        self.assertEqual(open_pairs((3, ("11-", "0-1", "-11"))), ())
        self.assertEqual(open_pairs((2, ("00", "01", "10", "11"))), (
            ((0, 0), (0, 1)), ((0, 0), (1, 0)), ((0, 1), (1, 1)), ((1, 0), (1, 1))))
        self.assertEqual(open_pairs((1, ())), ())
        self.assertEqual(open_pairs((1, ("-",))), ())

    def test_without_any_no_change_of_one_input_goes_to_and_fro(self):
        none = 0
        for cover in made_covers(121, 200, 5, 6):
            fros = [(a, b) for a, b in all_changes(cover[0])
                    if sum(one != other for one, other in zip(a, b)) == 1 and cover_word(cover, (a, b))[2]]
            self.assertEqual(open_pairs(cover) == (), fros == [])
            none += not fros
        self.assertGreater(none, 20)


if __name__ == "__main__":
    unittest.main()
