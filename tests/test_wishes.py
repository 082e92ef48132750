import itertools
import random
import unittest

from glitchnet.networds import words_of
from glitchnet.wishes import asked_of, greatest_allowed, is_allowed, is_free, is_wish
from tests.helpers import (
    all_changes, all_products, all_rows, check_kept, cover_formula, in_a_moment, made_wishes, odd_things,
    rows_in)


def ones_of(wish):
    """The rows of 1 of a wish's table."""
    return frozenset(row for row, sign in zip(all_rows(wish[0]), wish[1]) if sign == "1")


def between(change):
    """The rows on the ways of a change."""
    return frozenset(itertools.product(*[{before, after} for before, after in zip(*change)]))


def walked_allowed(wish, product):
    """Whether a product is allowed, by the rows that it holds."""
    ones, rows = ones_of(wish), rows_in(product)
    if not rows <= ones:
        return False
    for change in wish[2]:
        its_ones = [row for row in change if row in ones]
        if len(its_ones) == 1 and its_ones[0] not in rows and rows & between(change):
            return False
        if len(its_ones) == 0 and rows & between(change):
            return False
    return True


def walked_asked(wish):
    ones = ones_of(wish)
    texts = {"".join(map(str, row)) for row in ones}
    for a, b in wish[2]:
        if a in ones and b in ones:
            texts.add("".join(str(one) if one == other else "-" for one, other in zip(a, b)))
    return tuple(sorted(texts))


def walked_free(wish, cover):
    """Whether a cover is free, by its formula."""
    net, readings = cover_formula(cover)
    for row in all_rows(wish[0]):
        if words_of(net, (row, row))[-1][0] != int(row in ones_of(wish)):
            return False
    return not any(words_of(net, change)[-1][2] for change in wish[2])


class IsWishTest(unittest.TestCase):
    def told(self, thing):
        told = check_kept(self, is_wish, thing)
        self.assertIsInstance(told, bool)
        return told

    def test_wishes(self):
        for many in range(1, 5):
            size = 1 << many
            rows = all_rows(many)
            for table in ("0" * size, "1" * size, "01" * (size // 2)):
                for changes in ((), ((rows[0], rows[0]),), ((rows[0], rows[-1]), (rows[-1], rows[0])) * 32,
                                ((rows[1], rows[0]),) * 400):
                    self.assertIs(self.told((many, table, changes)), True)
        for wish in made_wishes(151, 60):
            self.assertIs(self.told(wish), True)

    def test_other_numbers(self):
        for many in (0, 5, 6, -1, True, False, None, "2", (2,), [2], 10 ** 39):
            for table in ("", "0", "01", "0110", "0" * 32, "1" * 64):
                self.assertIs(self.told((many, table, ())), False)

    def test_other_tables(self):
        for table in ("", "0", "01", "011", "01101", "0" * 8, "0 10", "01-0", "0120", "011\n", "~~~~", None, 0, 110,
                      (0, 1, 1, 0), ("0", "1", "1", "0"), ["0", "1", "1", "0"], [], {}, True, "01" * 3000):
            self.assertIs(self.told((2, table, ())), False)

    def test_other_changes(self):
        a, b = (0, 1), (1, 1)
        for change in ((a,), (a, b, b), [a, b], (a, [1, 1]), (a, (1,)), (a, (1, 1, 1)), ((0,), (1,)), (a, (1, 2)),
                       (a, (1, True)), ((False, 1), b), (a, (1, -1)), (a, "11"), ("01", "11"), "01 to 11", None, (),
                       0, {}, (a, None), (a, (None, 1)), (a, ("1", "1")), a):
            self.assertIs(self.told((2, "0110", (change,))), False)
            self.assertIs(self.told((2, "0110", ((a, b), change))), False)
        for changes in (None, 0, [], [(a, b)], "", {}, {(a, b): 1}, (a, b), (a,), True):
            self.assertIs(self.told((2, "0110", changes)), False)

    def test_other_shapes(self):
        for thing in ((2, "0110"), (2, "0110", (), ()), [2, "0110", ()], ("0110", 2, ()), (2, (), "0110"),
                      {2: "0110"}, ((2, "0110", ()),)):
            self.assertIs(self.told(thing), False)

    def test_of_anything(self):
        for thing in odd_things():
            self.assertIs(self.told(thing), False)
            self.assertIs(self.told((thing, "01", ())), thing.__class__ is int and thing == 1)
            self.assertIs(self.told((1, thing, ())), isinstance(thing, str) and thing == "01")
            self.assertIs(self.told((1, "01", thing)), thing.__class__ is tuple and thing == ())


class IsFreeTest(unittest.TestCase):
    def told(self, wish, thing):
        told = check_kept(self, is_free, wish, thing)
        self.assertIsInstance(told, bool)
        return told

    def test_all_covers_of_one_and_two_inputs(self):
        found = {True: 0, False: 0}
        for many in (1, 2):
            changes = all_changes(many)
            for sign in itertools.product("01", repeat=1 << many):
                for some in ((), tuple(changes[1:2]), tuple(changes[-2:]), tuple(changes[2::5])):
                    wish = (many, "".join(sign), some)
                    for count in range(3):
                        for products in itertools.combinations(all_products(many), count):
                            free = walked_free(wish, (many, products))
                            self.assertIs(is_free(wish, (many, products)), free)
                            found[free] += 1
        self.assertGreater(min(found.values()), 50)

    def test_free_just_where_all_is_allowed_and_all_asked_is_held(self):
        chance = random.Random(152)
        found = {True: 0, False: 0}
        for wish in made_wishes(153, 400, 4, 6):
            many, table, changes = wish
            allowed = [product for product in all_products(many) if walked_allowed(wish, product)]
            products = chance.sample(allowed, chance.randint(len(allowed) // 2, len(allowed)))
            if chance.randrange(5) == 0:
                products.append(chance.choice(all_products(many)))
            cover = (many, tuple(products + products[:chance.randrange(3)]))
            held = all(any(rows_in(product) >= rows_in(one) for product in products) for one in walked_asked(wish))
            free = held and all(product in allowed for product in products)
            self.assertIs(self.told(wish, cover), free)
            if len(products) <= 16:
                self.assertIs(walked_free(wish, cover), free)
            found[free] += 1
        self.assertGreater(min(found.values()), 50)

    def test_some_covers(self):
        change = ((0, 1, 1), (1, 1, 1))
        wish = (3, "01010011", (change,))
        self.assertIs(self.told(wish, (3, ("11-", "0-1"))), False)
        self.assertIs(self.told(wish, (3, ("11-", "0-1", "-11"))), True)
        self.assertIs(self.told(wish, (3, ("11-", "-11", "0-1", "11-"))), True)
        self.assertIs(self.told((3, wish[1], ()), (3, ("11-", "0-1"))), True)
        self.assertIs(self.told(wish, (3, ("11-", "-11"))), False)
        self.assertIs(self.told(wish, (3, ("1--", "0-1", "-11"))), False)
        self.assertIs(self.told((1, "00", ()), (1, ())), True)
        self.assertIs(self.told((1, "11", ()), (1, ())), False)

    def test_other_numbers_of_inputs(self):
        self.assertIs(self.told((2, "1111", ()), (2, ("--",))), True)
        for thing in ((1, ("-",)), (3, ("---",)), (2, ("-",)), (2, ("---",)), (True, ("-",)), (2, ["--"]), [2, ("--",)],
                      (2, "--"), (2, ("--",), ()), ("--",), (2, ("--", 0)), (2, ("--", "2-")), (2,), (6, ("-" * 6,))):
            self.assertIs(self.told((2, "1111", ()), thing), False)
        self.assertIs(self.told((1, "00", ()), (2, ())), False)
        self.assertIs(self.told((1, "11", ()), (True, ("-",))), False)

    def test_of_anything(self):
        for wish in ((1, "00", ()), (1, "11", ()), (4, "01" * 8, (((0,) * 4, (1,) * 4),))):
            for thing in odd_things() + [(wish[0], part) for part in odd_things() if part not in ((), ("0", "1"))]:
                self.assertIs(self.told(wish, thing), False)

    def test_thousands_of_products_end_in_a_moment(self):
        wish = (4, "1" * 16, tuple(all_changes(4)[:64]))
        self.assertIs(in_a_moment(lambda: is_free(wish, (4, ("0---", "1---") * 9000 + ("----",)))), True)
        self.assertIs(in_a_moment(lambda: is_free(wish, (4, ("0" * 4, "1---") * 9000))), False)


class IsAllowedTest(unittest.TestCase):
    def told(self, wish, thing):
        told = check_kept(self, is_allowed, wish, thing)
        self.assertIsInstance(told, bool)
        return told

    def test_all_products(self):
        found = {True: 0, False: 0}
        for wish in made_wishes(154, 80):
            for product in all_products(wish[0]):
                allowed = walked_allowed(wish, product)
                self.assertIs(is_allowed(wish, product), allowed)
                found[allowed] += 1
        self.assertGreater(min(found.values()), 100)

    def test_changes_with_one_row_of_1(self):
        down = ((1, 1), (0, 0))
        wish = (2, "0011", (down,))
        self.assertIs(self.told(wish, "1-"), True)
        self.assertIs(self.told(wish, "11"), True)
        self.assertIs(self.told(wish, "10"), False)
        self.assertIs(self.told((2, "0011", ()), "10"), True)
        self.assertIs(self.told((2, "0011", (((0, 0), (1, 1)),)), "10"), False)
        self.assertIs(self.told((2, "0011", (((1, 1), (0, 1)),)), "10"), True)

    def test_changes_without_a_row_of_1(self):
        wish = (2, "0010", (((0, 0), (1, 1)),))
        self.assertIs(self.told(wish, "10"), False)
        self.assertIs(self.told((2, "0010", (((0, 0), (0, 1)),)), "10"), True)
        self.assertIs(self.told((2, "0010", (((0, 0), (0, 0)),)), "10"), True)

    def test_other_things(self):
        wish = (2, "1111", ())
        self.assertIs(self.told(wish, "--"), True)
        for thing in ("", "-", "---", "-2", "- ", " --", "--\n", None, 0, True, ("-", "-"), ["-", "-"], {"-": 1}, ("--",),
                      ["--"], (), [], {}, 10):
            self.assertIs(self.told(wish, thing), False)
        for thing in odd_things():
            self.assertIs(self.told(wish, thing), isinstance(thing, str) and thing == "01")
            self.assertIs(self.told((4, "1" * 16, ()), thing), isinstance(thing, str) and thing == "0001")


class TuplesTest(unittest.TestCase):
    def check_wish(self, wish):
        """Both tuples against all products."""
        allowed = [product for product in all_products(wish[0]) if walked_allowed(wish, product)]
        rows = {product: rows_in(product) for product in allowed}
        great = tuple(sorted(one for one in allowed if not any(rows[one] < rows[other] for other in allowed)))
        for asked, right in ((greatest_allowed, great), (asked_of, walked_asked(wish))):
            told = check_kept(self, asked, wish)
            self.assertIs(told.__class__, tuple)
            self.assertTrue(all(one.__class__ is str for one in told))
            self.assertEqual(told, right)

    def test_all_tables_of_one_and_two_inputs(self):
        for many in (1, 2):
            changes = all_changes(many)
            for signs in itertools.product("01", repeat=1 << many):
                for some in [()] + [(change,) for change in changes] + [tuple(changes)]:
                    self.check_wish((many, "".join(signs), some))

    def test_drawn_wishes(self):
        for wish in made_wishes(155, 150):
            self.check_wish(wish)

    def test_without_rows_of_1(self):
        for many in range(1, 5):
            for changes in ((), tuple(all_changes(many)[:64])):
                wish = (many, "0" * (1 << many), changes)
                self.check_wish(wish)
                self.assertEqual(greatest_allowed(wish), ())
                self.assertEqual(asked_of(wish), ())

    def test_rows_of_1_alone(self):
        for many in range(1, 5):
            wish = (many, "1" * (1 << many), tuple(all_changes(many)[-64:]))
            self.check_wish(wish)
            self.assertEqual(greatest_allowed(wish), ("-" * many,))

    def test_alike_rows(self):
        for many in range(1, 5):
            rows = all_rows(many)
            for table in ("01" * (1 << many - 1), "0" + "1" * ((1 << many) - 1)):
                alike = (many, table, tuple((row, row) for row in rows))
                self.check_wish(alike)
                self.assertEqual(greatest_allowed(alike), greatest_allowed((many, table, ())))
                self.assertEqual(asked_of(alike), asked_of((many, table, ())))

    def test_sixty_four_changes_end_in_a_moment(self):
        for wish in made_wishes(156, 12, 4):
            longer = (4, "0110111111011111", tuple(all_changes(4)[len(wish[2]):len(wish[2]) + 64]))
            in_a_moment(lambda: self.check_wish(longer))

    def test_some_wishes(self):
        change = ((0, 1, 1), (1, 1, 1))
        wish = (3, "01010011", (change, change, ((0, 0, 0), (1, 1, 1))))
        self.assertEqual(asked_of(wish), ("-11", "001", "011", "110", "111"))
        self.assertEqual(greatest_allowed(wish), ("-11", "11-"))
        self.assertEqual(greatest_allowed((3, "01010011", (change,))), ("-11", "0-1", "11-"))


if __name__ == "__main__":
    unittest.main()
