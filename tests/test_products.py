import itertools
import random
import unittest

from glitchnet.products import cube_of, holds_all, holds_row, is_product, meet, products_holding
from tests.helpers import all_products, all_rows, check_kept, odd_things, rows_in


class IsProductTest(unittest.TestCase):
    def told(self, many, thing):
        told = check_kept(self, is_product, many, thing)
        self.assertIsInstance(told, bool)
        return told

    def test_all_products(self):
        for many in range(1, 7):
            for product in all_products(many):
                self.assertIs(is_product(many, product), True)
                for other in (many - 1, many + 1):
                    self.assertIs(is_product(other, product), False)

    def test_other_signs(self):
        for thing in ("2", " ", "x", "*", "+", "\n", "~", "_", "o"):
            self.assertIs(self.told(1, thing), False)
            self.assertIs(self.told(3, "0" + thing + "1"), False)
            self.assertIs(self.told(2, "-" + thing), False)
        for thing in ("", "01", "0-1", "0-1-0", "-\n", " 0-1", "0-1 ", "0-1\n", "0 -1"):
            self.assertIs(self.told(4, thing), False)

    def test_no_texts(self):
        for thing in ((0, 1), ("0", "1"), ["0", "1"], {"0": 1, "1": 0}, (("0", "1"),), 10, 1, None, True, [], {}, ()):
            self.assertIs(self.told(2, thing), False)

    def test_of_anything(self):
        for thing in odd_things():
            for many in range(1, 7):
                good = isinstance(thing, str) and thing in ("0", "1", "01", "0001") and len(thing) == many
                self.assertIs(self.told(many, thing), good)


class HoldsTest(unittest.TestCase):
    def test_rows(self):
        for many in range(1, 7):
            for product in all_products(many):
                rows = rows_in(product)
                for row in all_rows(many):
                    self.assertIs(holds_row(product, row), row in rows)

    def check_pair(self, one, other, rows):
        self.assertIs(holds_all(one, other), rows[one] >= rows[other])
        self.assertIs(meet(one, other), not rows[one].isdisjoint(rows[other]))

    def test_pairs_of_products(self):
        for many in range(1, 5):
            rows = {product: rows_in(product) for product in all_products(many)}
            for one, other in itertools.product(rows, repeat=2):
                self.check_pair(one, other, rows)

    def test_pairs_of_five_and_six_inputs(self):
        chance = random.Random(101)
        for many in (5, 6):
            rows = {product: rows_in(product) for product in all_products(many)}
            products = list(rows)
            for turn in range(20000):
                one = chance.choice(products)
                other = chance.choice(products)
                if turn & 1:
                    other = "".join(sign if sign != "-" else chance.choice("-01") for sign in one)
                self.check_pair(one, other, rows)

    def test_kept(self):
        self.assertIs(check_kept(self, holds_row, "0-1", (0, 1, 1)), True)
        self.assertIs(check_kept(self, holds_row, "0-1", (0, 1, 0)), False)
        self.assertIs(check_kept(self, holds_all, "0--", "0-1"), True)
        self.assertIs(check_kept(self, holds_all, "0-1", "0--"), False)
        self.assertIs(check_kept(self, meet, "0--", "-1-"), True)
        self.assertIs(check_kept(self, meet, "0-1", "1--"), False)


class CubeOfTest(unittest.TestCase):
    def test_all_changes(self):
        for many in range(1, 6):
            for a, b in itertools.product(all_rows(many), repeat=2):
                cube = "".join(str(one) if one == other else "-" for one, other in zip(a, b))
                self.assertEqual(cube_of((a, b)), cube)

    def test_alike_and_unlike_rows(self):
        a = (0, 1, 1, 0, 1, 0)
        self.assertEqual(check_kept(self, cube_of, (a, a)), "011010")
        self.assertEqual(check_kept(self, cube_of, (a, (0, 1, 0, 0, 1, 0))), "01-010")
        self.assertEqual(check_kept(self, cube_of, (a, (1, 0, 0, 1, 0, 1))), "------")
        self.assertIs(cube_of((a, a)).__class__, str)


class ProductsHoldingTest(unittest.TestCase):
    def test_all_products(self):
        for many in range(1, 5):
            rows = {product: rows_in(product) for product in all_products(many)}
            for product in rows:
                told = check_kept(self, products_holding, product)
                self.assertIs(told.__class__, tuple)
                self.assertEqual(told, tuple(sorted(other for other in rows if rows[other] >= rows[product])))

    def test_five_and_six_inputs(self):
        self.assertEqual(products_holding("------"), ("------",))
        for product in ("010101", "-0-1-0", "11111", "0----1"):
            told = products_holding(product)
            self.assertEqual(list(told), sorted(set(told)))
            self.assertEqual(len(told), 1 << len(product.replace("-", "")))
            self.assertTrue(all(rows_in(other) >= rows_in(product) for other in told))

    def test_sorted(self):
        self.assertEqual(products_holding("0"), ("-", "0"))
        self.assertEqual(products_holding("10"), ("--", "-0", "1-", "10"))
        self.assertEqual(products_holding("1-0"), ("---", "--0", "1--", "1-0"))


if __name__ == "__main__":
    unittest.main()
