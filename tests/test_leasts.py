import functools
import itertools
import random
import unittest

from glitchnet.leasts import least_free
from glitchnet.wishes import is_free
from tests.helpers import all_changes, all_products, all_rows, check_kept, in_a_moment, is_plain, made_wishes, rows_in
from tests.test_wishes import between, ones_of, walked_allowed, walked_asked, walked_free


class Look:
    """What a walk of the test's own knows of a wish."""

    def __init__(self, wish):
        self.wish = wish
        self.asked = walked_asked(wish)
        self.rows = {product: rows_in(product) for product in all_products(wish[0])}
        self.allowed = [product for product in all_products(wish[0]) if walked_allowed(wish, product)]
        self.great = [one for one in self.allowed
                      if not any(self.rows[one] < self.rows[other] for other in self.allowed)]

    def holds(self, product, other):
        return self.rows[product] >= self.rows[other]

    def fewest(self, given=None):
        """How many allowed products are needed for the given ones, else all asked, by a search through what is left."""
        @functools.lru_cache(None)
        def needed(left):
            if not left:
                return 0
            first = min(left)
            return 1 + min(needed(frozenset(one for one in left if not self.holds(product, one)))
                           for product in self.great if self.holds(product, first))
        return needed(frozenset(self.asked if given is None else given))

    def shown_by(self, case, paper, given):
        """The number that a paper shows for the given ones, looked at knot by knot."""
        case.assertIs(paper.__class__, tuple)
        if paper[0] == "apart":
            kind, some = paper
            case.assertIs(some.__class__, tuple)
            case.assertEqual(list(some), sorted(set(some)))
            case.assertLessEqual(set(some), set(given))
            for one, other in itertools.combinations(some, 2):
                case.assertFalse(any(self.holds(product, one) and self.holds(product, other)
                                     for product in self.allowed))
            return len(some)
        kind, one, papers = paper
        case.assertEqual(kind, "case")
        case.assertIn(one, given)
        case.assertIs(papers.__class__, tuple)
        holding = [product for product in self.great if self.holds(product, one)]
        case.assertGreater(len(holding), 0)
        case.assertEqual(len(papers), len(holding))
        return 1 + min(self.shown_by(case, below, [other for other in given if not self.holds(product, other)])
                       for product, below in zip(holding, papers))


def parts_in(paper):
    """How many parts a paper has, each as often as it stands."""
    return 1 + sum(map(parts_in, paper)) if isinstance(paper, tuple) else 1


def edges(many):
    """The changes of one input, one way about."""
    return [(a, b) for a, b in all_changes(many) if a < b and sum(one != other for one, other in zip(a, b)) == 1]


def edges_of_ones(table):
    """A wish of four inputs with all changes of one input between rows of 1."""
    ones = ones_of((4, table, ()))
    return (4, table, tuple((a, b) for a, b in edges(4) if a in ones and b in ones))


class LeastFreeTest(unittest.TestCase):
    def check_wish(self, wish):
        look = Look(wish)
        told = check_kept(self, least_free, wish)
        self.assertTrue(is_plain(told))
        self.assertEqual(len(told), 3)
        open_ones = [one for one in look.asked if not any(look.holds(product, one) for product in look.allowed)]
        if open_ones:
            self.check_none(look, told, open_ones[0])
        else:
            self.check_least(look, told)
        return told

    def check_least(self, look, told):
        """The cover is free, none of fewer products is, and the paper shows just how many it has."""
        kind, cover, paper = told
        self.assertEqual(kind, "least")
        self.assertIs(is_free(look.wish, cover), True)
        self.assertIs(walked_free(look.wish, cover), True)
        self.assertEqual(len(cover[1]), look.fewest())
        self.assertEqual(look.shown_by(self, paper, look.asked), len(cover[1]))
        self.assertLess(parts_in(paper), 20000)

    def check_none(self, look, told, first):
        """The first asked product that no allowed one holds, and a reason for each product that holds it."""
        kind, asked, reasons = told
        self.assertEqual((kind, asked), ("none", first))
        self.assertEqual([product for product, why in reasons],
                         [product for product in sorted(look.rows) if look.holds(product, first)])
        for product, why in reasons:
            self.check_reason(look, look.rows[product], why)

    def check_reason(self, look, rows, why):
        many, table, changes = look.wish
        kind, what = why
        if kind == "row":
            self.assertIn(what, rows)
            self.assertNotIn(what, ones_of(look.wish))
            return
        self.assertEqual(kind, "change")
        self.assertIs(what.__class__, int)
        self.assertIn(what, range(len(changes)))
        ones = [row for row in changes[what] if row in ones_of(look.wish)]
        self.assertLess(len(ones), 2)
        self.assertTrue(rows & between(changes[what]))
        self.assertFalse(any(row in rows for row in ones))

    def test_all_tables_of_one_and_two_inputs_against_all_sets(self):
        for many in (1, 2):
            changes = all_changes(many)
            for signs in itertools.product("01", repeat=1 << many):
                for some in ((), tuple(changes[1:2]), tuple(changes[3:4]), tuple(changes[-1:]), tuple(changes[::5]),
                             tuple(changes)):
                    wish = (many, "".join(signs), some)
                    told = self.check_wish(wish)
                    sizes = [count for count in range(5) for products in itertools.combinations(
                        all_products(many), count) if is_free(wish, (many, products))]
                    if told[0] == "least":
                        self.assertEqual(len(told[1][1]), min(sizes))
                    else:
                        self.assertEqual(sizes, [])

    def test_all_tables_of_two_inputs_at_each_change(self):
        for signs in itertools.product("01", repeat=4):
            for change in all_changes(2):
                self.check_wish((2, "".join(signs), (change,)))

    def test_all_tables_of_three_inputs_without_changes(self):
        for number in range(256):
            self.assertEqual(self.check_wish((3, format(number, "08b"), ()))[0], "least")

    def test_three_inputs_with_all_changes_of_one_input(self):
        """They can always be met."""
        for number in range(0, 256, 5):
            table = format(number, "08b")
            told = self.check_wish((3, table, tuple(edges(3)) + tuple((b, a) for a, b in edges(3))))
            self.assertEqual(told[0], "least")

    def test_drawn_wishes(self):
        told = [self.check_wish(wish)[0] for wish in made_wishes(161, 250)]
        self.assertGreater(told.count("least"), 80)
        self.assertGreater(told.count("none"), 20)

    def test_drawn_tables_of_four_inputs(self):
        chance = random.Random(162)
        for turn in range(40):
            table = "".join(chance.choice("0111") for row in range(16))
            self.check_wish((4, table, ()))
            self.check_wish(edges_of_ones(table))
            some = tuple(chance.sample(edges(4), 8)) + tuple(chance.sample(all_changes(4), 2))
            self.check_wish((4, table, some))

    def test_some_wishes(self):
        self.assertEqual(least_free((1, "00", ())), ("least", (1, ()), ("apart", ())))
        self.assertEqual(least_free((1, "11", ()))[1], (1, ("-",)))
        self.assertEqual(least_free((2, "0110", ()))[1:], ((2, ("01", "10")), ("apart", ("01", "10"))))
        wish = (3, "01010011", (((0, 1, 1), (1, 1, 1)),))
        self.assertEqual(sorted(self.check_wish(wish)[1][1]), ["-11", "0-1", "11-"])
        self.assertEqual(len(self.check_wish((3, "01010011", ()))[1][1]), 2)

    def test_some_nones(self):
        told = self.check_wish((2, "0010", (((0, 0), (1, 1)),)))
        self.assertEqual(told[:2], ("none", "10"))
        self.assertEqual([product for product, why in told[2]], ["--", "-0", "1-", "10"])
        self.assertEqual(told[2][-1], ("10", ("change", 0)))
        told = self.check_wish((2, "0111", (((0, 1), (1, 0)), ((0, 0), (1, 1)))))
        self.assertEqual(told[:2], ("none", "--"))
        self.assertEqual(told[2], (("--", ("row", (0, 0))),))

    def test_the_first_such_asked_product(self):
        found = set()
        for wish in made_wishes(163, 200, 4, 12):
            told = self.check_wish(wish)
            if told[0] == "none":
                found.add(walked_asked(wish).index(told[1]) > 0)
        self.assertEqual(found, {True, False})

    def test_papers_with_cases(self):
        """Where no asked products apart from one another show how many are needed."""
        told = in_a_moment(lambda: self.check_wish(edges_of_ones("0" + "1" * 14 + "0")))
        self.assertEqual(len(told[1][1]), 8)
        self.assertEqual(told[2][0], "case")
        six = self.check_wish((3, "01111110", ()))
        self.assertEqual(len(six[1][1]), 3)

    def test_parity(self):
        table = "".join(str(sum(row) & 1) for row in all_rows(4))
        self.assertEqual(len(self.check_wish((4, table, ()))[1][1]), 8)
        self.assertEqual(len(self.check_wish((4, "1" * 16, tuple(all_changes(4)[:64])))[1][1]), 1)

    def test_sixty_four_changes_end_in_a_moment(self):
        chance = random.Random(164)
        neighbours = tuple(edges(4)) + tuple((b, a) for a, b in edges(4))
        self.assertEqual(len(neighbours), 64)
        tables = ["0" + "1" * 14 + "0", "0" + "1" * 15, "1101111111111011", "1110011111101111", "1111110110111111"]
        tables += ["".join(chance.choice("01111") for row in range(16)) for turn in range(20)]
        for table in tables:
            wish = (4, table, neighbours)
            self.assertEqual(in_a_moment(lambda: least_free(wish))[0], "least")
            self.check_wish(wish)
            other = (4, table, tuple(chance.sample(all_changes(4), 64)))
            in_a_moment(lambda: least_free(other))
            self.check_wish(other)

    def test_sixty_four_changes_between_rows_of_1(self):
        chance = random.Random(165)
        for turn in range(15):
            table = "".join(chance.choice("01111") for row in range(16))
            ones = ones_of((4, table, ()))
            inner = [change for change in all_changes(4) if between(change) <= ones]
            wish = (4, table, tuple(chance.choice(inner) for number in range(64)))
            self.assertEqual(in_a_moment(lambda: least_free(wish))[0], "least")
            self.check_wish(wish)


if __name__ == "__main__":
    unittest.main()
