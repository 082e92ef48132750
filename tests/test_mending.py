import itertools
import random
import unittest

from glitchnet.leastchecks import reasons_holds, shown_by
from glitchnet.mending import mended, neighbours
from glitchnet.wishes import is_free
from tests.helpers import (
    all_changes, all_products, all_rows, check_kept, edges_of, in_a_moment, is_numbers, is_plain, made_changes,
    made_covers, made_product, rows_of_cover)
from tests.test_leasts import Look
from tests.test_leastchecks import walked_reasons, walked_shown
from tests.test_wishes import between, walked_free


def walked_wish(cover, changes):
    """The wish of what a cover tells."""
    ones = rows_of_cover(cover)
    return (cover[0], "".join("1" if row in ones else "0" for row in all_rows(cover[0])), changes)


class MendedTest(unittest.TestCase):
    def check_cover(self, cover, changes):
        look = Look(walked_wish(cover, changes))
        told = check_kept(self, mended, cover, changes)
        self.assertTrue(is_plain(told))
        nevers = [k for k, product in enumerate(cover[1]) if product not in look.allowed]
        open_ones = [one for one in look.asked if not any(look.holds(product, one) for product in look.allowed)]
        if nevers:
            self.assertEqual(told, ("never", nevers[0]))
            self.assertIs(told[1].__class__, int)
        elif open_ones:
            self.assertEqual(told[:2], ("none", open_ones[0]))
            self.assertEqual(len(told), 3)
            self.assertTrue(walked_reasons(look, open_ones[0], told[2]))
            self.assertIs(reasons_holds(look.wish, open_ones[0], told[2]), True)
        else:
            self.check_more(look, cover, told)
        return told

    def check_more(self, look, cover, told):
        """With the products the cover is free, no fewer do, and the paper shows just how many."""
        kind, products, paper = told
        self.assertEqual(kind, "more")
        self.assertEqual(list(products), sorted(products))
        more = (cover[0], cover[1] + products)
        self.assertEqual(rows_of_cover(more), rows_of_cover(cover))
        self.assertTrue(walked_free(look.wish, more))
        self.assertIs(is_free(look.wish, more), True)
        left = tuple(one for one in look.asked if not any(look.holds(product, one) for product in cover[1]))
        self.assertEqual(len(products), look.fewest(left))
        self.assertEqual(walked_shown(look, left, paper), len(products))
        self.assertEqual(shown_by(look.wish, left, paper), len(products))
        self.assertEqual(not products, walked_free(look.wish, cover))

    def test_small_covers_against_all_sets_of_products(self):
        kinds = set()
        for many, most in ((1, 2), (2, 2)):
            every = all_changes(many)
            for count in range(most + 1):
                for products in itertools.product(all_products(many), repeat=count):
                    for changes in ([], every[1:2], every[3::4], edges_of(many), every[6:9]):
                        cover, changes = (many, products), tuple(changes)
                        told = self.check_cover(cover, changes)
                        kinds.add(told[0])
                        self.check_against_sets(cover, changes, told)
        self.assertEqual(kinds, {"never", "none", "more"})

    def check_against_sets(self, cover, changes, told):
        """No set of fewer products mends the cover; where none is told, none does."""
        wish = walked_wish(cover, changes)
        most = len(told[1]) if told[0] == "more" else 3
        for count in range(most):
            for some in itertools.combinations(all_products(cover[0]), count):
                self.assertFalse(is_free(wish, (cover[0], cover[1] + some)))

    def test_drawn_covers(self):
        chance = random.Random(221)
        kinds = []
        for cover in made_covers(222, 250, 4):
            table = walked_wish(cover, ())[1]
            changes = made_changes(chance, cover[0], table, chance.choice((0, 1, 2, 3, 8, 64)))
            if chance.randrange(3) == 0:
                changes = tuple(chance.choice(all_changes(cover[0])) for turn in range(chance.randint(1, 3)))
            kinds.append(self.check_cover(cover, changes)[0])
        for kind in ("never", "none", "more"):
            self.assertGreater(kinds.count(kind), 4, kind)

    def test_changes_between_rows_of_1(self):
        """Such changes never forbid a product, but may ask for what can't be."""
        chance = random.Random(223)
        kinds, numbers = set(), set()
        for cover in made_covers(224, 150, 4, 8):
            ones = sorted(rows_of_cover(cover))
            inner = [change for change in itertools.product(ones, repeat=2) if chance.randrange(2) == 0]
            good = [change for change in inner if between(change) <= set(ones)]
            for changes in (tuple(inner[:6]), tuple(good[:64])):
                told = self.check_cover(cover, changes)
                kinds.add(told[0])
                if told[0] == "more":
                    numbers.add(len(told[1]))
        self.assertEqual(kinds, {"none", "more"})
        self.assertGreater(max(numbers), 2)

    def test_all_changes_of_one_input_can_always_be_mended(self):
        numbers = set()
        for cover in made_covers(225, 80, 4):
            told = in_a_moment(lambda: self.check_cover(cover, neighbours(cover[0])))
            self.assertEqual(told[0], "more")
            numbers.add(len(told[1]))
        for number in range(0, 256, 3):
            rows = [row for row in all_products(3) if "-" not in row]
            cover = (3, tuple(row for k, row in enumerate(rows) if number >> k & 1))
            told = self.check_cover(cover, neighbours(3))
            self.assertEqual(told[0], "more")
            numbers.add(len(told[1]))
        self.assertGreater(max(numbers), 2)

    def test_some_covers(self):
        change = ((1, 1, 1), (0, 1, 1))
        cover = (3, ("11-", "0-1"))
        self.assertEqual(mended(cover, (change,)), ("more", ("-11",), ("apart", ("-11",))))
        self.assertEqual(mended(cover, ()), ("more", (), ("apart", ())))
        self.assertEqual(mended((3, ("11-", "0-1", "-11")), (change,)), ("more", (), ("apart", ())))
        self.assertEqual(mended((2, ("01", "10")), (((0, 0), (1, 1)),)), ("never", 0))
        self.assertEqual(mended((2, ("11", "-1")), (((0, 0), (0, 1)), ((1, 0), (0, 1)))), ("never", 0))
        self.assertEqual(mended((2, ("-1", "11")), (((1, 0), (0, 1)),)), ("never", 1))
        told = mended((2, ("01", "10")), (((0, 1), (1, 0)),))
        self.assertEqual(told[:2], ("none", "--"))
        self.assertEqual(mended((1, ()), (((0,), (1,)),)), ("more", (), ("apart", ())))

    def test_never_goes_ahead_of_none(self):
        changes = (((0, 1), (1, 0)), ((0, 0), (1, 1)))
        self.assertEqual(mended((2, ("01", "10")), changes), ("never", 0))

    def test_the_same_product_twice(self):
        cover = (3, ("11-", "0-1", "11-", "0-1"))
        self.assertEqual(self.check_cover(cover, (((1, 1, 1), (0, 1, 1)),))[1], ("-11",))

    def test_sixteen_products_and_sixty_four_changes_end_in_a_moment(self):
        chance = random.Random(226)
        self.assertEqual(len(neighbours(4)), 64)
        for turn in range(12):
            cover = (4, tuple(made_product(chance, 4, 9) for product in range(16)))
            in_a_moment(lambda: self.check_cover(cover, neighbours(4)))
            ones = sorted(rows_of_cover(cover))
            inner = [change for change in itertools.product(ones, repeat=2) if between(change) <= set(ones)]
            in_a_moment(lambda: self.check_cover(cover, tuple(chance.choice(inner) for number in range(64))))
        for holes in ((0, 15), (0,), (5, 9), (), (3, 12, 6)):
            rows = [row for row in all_products(4) if "-" not in row]
            cover = (4, tuple(row for k, row in enumerate(rows) if k not in holes))
            told = in_a_moment(lambda: self.check_cover(cover, neighbours(4)))
            self.assertEqual(told[0], "more")


class NeighboursTest(unittest.TestCase):
    def test_one_to_six_inputs(self):
        for many in range(1, 7):
            told = check_kept(self, neighbours, many)
            self.assertTrue(is_numbers(told))
            self.assertEqual(told, tuple(sorted(edges_of(many))))
            self.assertEqual(len(told), many << many)
            self.assertEqual(len(set(told)), len(told))
            for a, b in told:
                self.assertIn((b, a), told)

    def test_one_input(self):
        self.assertEqual(neighbours(1), (((0,), (1,)), ((1,), (0,))))


if __name__ == "__main__":
    unittest.main()
