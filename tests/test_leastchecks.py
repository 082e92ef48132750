import itertools
import random
import unittest

from glitchnet.leastchecks import reasons_holds, shown_by
from glitchnet.leasts import least_free
from tests.helpers import all_changes, check_kept, in_a_moment, made_wishes, nested, odd_things, others_of
from tests.test_leasts import Look, edges_of_ones
from tests.test_wishes import between, ones_of

CYCLE = (3, "01111110", ())


def walked_shown(look, given, thing):
    """The number that a paper shows, knot by knot, or None."""
    if thing.__class__ is not tuple or len(thing) < 2 or thing[0].__class__ is not str:
        return None
    if thing[0] == "apart" and len(thing) == 2:
        some = thing[1]
        if some.__class__ is not tuple or not all(one.__class__ is str and one in given for one in some):
            return None
        if list(some) != sorted(set(some)):
            return None
        for one, other in itertools.combinations(some, 2):
            if any(look.holds(product, one) and look.holds(product, other) for product in look.allowed):
                return None
        return len(some)
    if thing[0] != "case" or len(thing) != 3:
        return None
    name, one, papers = thing
    if one.__class__ is not str or one not in given or papers.__class__ is not tuple:
        return None
    holding = [product for product in look.great if look.holds(product, one)]
    if len(papers) != len(holding) or not holding:
        return None
    shown = [walked_shown(look, [other for other in given if not look.holds(product, other)], paper)
             for product, paper in zip(holding, papers)]
    return None if None in shown else 1 + min(shown)


def drawn_apart(chance, look, given):
    """An apart of some given ones by chance."""
    some = []
    for one in chance.sample(given, len(given)):
        if chance.randrange(4) and not any(
                look.holds(product, one) and look.holds(product, other) for product in look.great for other in some):
            some.append(one)
    return ("apart", tuple(sorted(some)))


def drawn_paper(chance, look, given, deep):
    """A paper of the test's own hand for the given ones."""
    given = list(given)
    ones = [one for one in given if any(look.holds(product, one) for product in look.great)]
    if deep == 0 or not ones or chance.randrange(4) == 0:
        return drawn_apart(chance, look, given)
    one = chance.choice(ones)
    papers = [drawn_paper(chance, look, [other for other in given if not look.holds(product, other)], deep - 1)
              for product in look.great if look.holds(product, one)]
    return ("case", one, tuple(papers))


class ShownByTest(unittest.TestCase):
    def check_paper(self, look, given, paper):
        """What is told of a thing, against the walk."""
        told = check_kept(self, shown_by, look.wish, tuple(given), paper)
        right = walked_shown(look, list(given), paper)
        self.assertEqual(told, right)
        self.assertIs(told.__class__, right.__class__)
        return told

    def test_some_papers(self):
        wish = (2, "0110", ())
        given = ("01", "10")
        self.assertEqual(shown_by(wish, given, ("apart", given)), 2)
        self.assertEqual(shown_by(wish, given, ("apart", ("10",))), 1)
        self.assertEqual(shown_by(wish, given, ("apart", ())), 0)
        self.assertEqual(shown_by(wish, (), ("apart", ())), 0)
        self.assertEqual(shown_by(wish, given, ("case", "01", (("apart", ("10",)),))), 2)
        self.assertEqual(shown_by(wish, given, ("case", "01", (("case", "10", (("apart", ()),)),))), 2)
        self.assertIsNone(shown_by(wish, given, ("case", "01", (("apart", ("01",)),))))
        self.assertIsNone(shown_by(wish, given, ("apart", ("10", "01"))))
        self.assertIsNone(shown_by(wish, given, ("apart", ("01", "01"))))
        self.assertIsNone(shown_by(wish, ("01",), ("apart", given)))
        self.assertIsNone(shown_by((2, "0111", ()), ("01", "10", "11"), ("apart", ("01", "11"))))
        self.assertEqual(shown_by((2, "0111", ()), ("01", "10", "11"), ("apart", ("01", "10"))), 2)

    def test_a_cycle(self):
        """Six rows, two of which each of six products holds: three products are needed, and three rows are apart."""
        look = Look(CYCLE)
        given = tuple(look.asked)
        self.assertEqual(self.check_paper(look, given, ("apart", ("001", "010", "100"))), 3)
        case = ("case", "001", (("apart", ("010", "100")), ("apart", ("010", "100"))))
        self.assertEqual(self.check_paper(look, given, case), 3)
        self.assertIsNone(self.check_paper(look, given, ("case", "001", (("apart", ("010", "100")),))))
        self.assertIsNone(self.check_paper(look, given, ("case", "001", (("apart", ()),) * 3)))
        self.assertIsNone(self.check_paper(look, given, ("apart", ("001", "011"))))
        low = ("case", "001", (("apart", ("010", "100")), ("apart", ())))
        self.assertEqual(self.check_paper(look, given, low), 1)

    def test_the_papers_go_by_the_greatest_products_in_order(self):
        """001 is held by -01 and 0-1, in this order: what they leave is another one."""
        given = tuple(Look(CYCLE).asked)
        right = ("case", "001", (("apart", ("010", "011")[1:]), ("apart", ("101",))))
        self.assertEqual(shown_by(CYCLE, given, right), 2)
        turned = ("case", "001", right[2][::-1])
        self.assertIsNone(shown_by(CYCLE, given, turned))

    def test_no_case_of_one_that_no_product_holds(self):
        wish = (2, "0010", (((0, 0), (1, 1)),))
        self.assertIsNone(shown_by(wish, ("10",), ("case", "10", ())))
        self.assertEqual(shown_by(wish, ("10",), ("apart", ("10",))), 1)

    def test_what_least_free_tells(self):
        for wish in made_wishes(201, 120):
            told = least_free(wish)
            if told[0] == "least":
                look = Look(wish)
                self.assertEqual(self.check_paper(look, look.asked, told[2]), len(told[1][1]))

    def test_papers_of_another_hand(self):
        chance = random.Random(202)
        seen = set()
        for wish in made_wishes(203, 100, 4, 8) + [CYCLE]:
            look = Look(wish)
            for turn in range(5):
                given = sorted(chance.sample(look.asked, chance.randint(0, len(look.asked))))
                paper = drawn_paper(chance, look, given, chance.randint(0, 3))
                told = self.check_paper(look, given, paper)
                self.assertIsNotNone(told)
                if all(any(look.holds(product, one) for product in look.great) for one in given):
                    self.assertLessEqual(told, look.fewest(given))
                seen.add((paper[0], told > 1))
        self.assertEqual(len(seen), 4)

    def test_papers_with_one_thing_put_otherwise(self):
        chance = random.Random(204)
        found = {True: 0, False: 0}
        for wish in made_wishes(205, 40, 3, 5) + [CYCLE, (2, "0110", ())]:
            look = Look(wish)
            given = tuple(look.asked)
            for paper in (drawn_paper(chance, look, given, 2), drawn_apart(chance, look, given)):
                others = others_of(paper)
                for other in chance.sample(others, min(len(others), 80)):
                    found[self.check_paper(look, given, other) is None] += 1
        self.assertGreater(min(found.values()), 50)

    def test_of_anything(self):
        for wish, given in (((1, "11", ()), ("0", "1")), ((1, "00", ()), ()), (CYCLE, tuple(Look(CYCLE).asked))):
            for thing in odd_things():
                for paper in (thing, ("apart", thing), ("apart", (thing,)), ("case", thing, (("apart", ()),)),
                              ("case", "001", thing), ("case", "001", (thing, thing)), (thing, ()),
                              ("apart", (), thing),
                              ["apart", ()], {"apart": ()}, ("case", "001", [("apart", ())] * 2)):
                    told = check_kept(self, shown_by, wish, given, paper)
                    if isinstance(thing, str) and thing in given:
                        continue
                    self.assertEqual(told, 0 if paper.__class__ is tuple and paper == ("apart", ()) else None)

    def test_deep_and_wide_things_end_in_a_moment(self):
        wish = (4, "1" * 16, tuple(all_changes(4)[:64]))
        given = tuple(Look(wish).asked)
        self.assertIsNone(in_a_moment(lambda: shown_by(wish, given, ("apart", given * 300))))
        tower = nested(lambda thing: ("case", given[0], (thing,)) if thing else ("apart", ()), 15)
        in_a_moment(lambda: shown_by(wish, given, tower))
        wide = edges_of_ones("0" + "1" * 14 + "0")
        asked = tuple(Look(wide).asked)
        self.assertIsNone(in_a_moment(lambda: shown_by(wide, asked, ("case", asked[0], (("apart", asked),) * 400))))


def walked_reason(look, product, thing):
    """Whether it is a product's reason, by the rows that it holds."""
    many, table, changes = look.wish
    if thing.__class__ is not tuple or len(thing) != 2 or thing[0] != product or thing[1].__class__ is not tuple:
        return False
    if len(thing[1]) != 2 or thing[1][0].__class__ is not str:
        return False
    kind, what = thing[1]
    rows = look.rows[product]
    if kind == "row":
        if what.__class__ is not tuple or not all(worth.__class__ is int for worth in what):
            return False
        return what in rows and what not in ones_of(look.wish)
    if kind != "change" or what.__class__ is not int or what not in range(len(changes)):
        return False
    ones = [row for row in changes[what] if row in ones_of(look.wish)]
    return len(ones) < 2 and bool(rows & between(changes[what])) and not any(row in rows for row in ones)


def walked_reasons(look, asked, thing):
    holding = [product for product in sorted(look.rows) if look.holds(product, asked)]
    if thing.__class__ is not tuple or len(thing) != len(holding):
        return False
    return all(walked_reason(look, product, part) for product, part in zip(holding, thing))


def every_reason(look, product):
    """All reasons why a product isn't allowed."""
    things = [("row", row) for row in sorted(look.rows[product])]
    things += [("change", k) for k in range(len(look.wish[2]))]
    return [(product, thing) for thing in things if walked_reason(look, product, (product, thing))]


class ReasonsHoldsTest(unittest.TestCase):
    def check_reasons(self, look, asked, thing):
        told = check_kept(self, reasons_holds, look.wish, asked, thing)
        self.assertIs(told, walked_reasons(look, asked, thing))
        return told

    def nones(self, seed, count, most_changes):
        """Wishes without a free cover, with what is told of them."""
        found = []
        for wish in made_wishes(seed, count, 4, most_changes):
            told = least_free(wish)
            if told[0] == "none":
                found.append((Look(wish), told[1], told[2]))
        self.assertGreater(len(found), 10)
        return found

    def test_what_least_free_tells(self):
        for look, asked, reasons in self.nones(211, 250, 64):
            self.assertTrue(self.check_reasons(look, asked, reasons))

    def test_other_reasons_that_are_so(self):
        chance = random.Random(212)
        for look, asked, reasons in self.nones(213, 200, 12):
            for turn in range(4):
                other = tuple(chance.choice(every_reason(look, product)) for product, why in reasons)
                self.assertTrue(self.check_reasons(look, asked, other))

    def test_one_thing_put_otherwise(self):
        chance = random.Random(214)
        found = {True: 0, False: 0}
        for look, asked, reasons in self.nones(215, 200, 12):
            others = others_of(reasons)
            for other in chance.sample(others, min(len(others), 120)):
                found[self.check_reasons(look, asked, other)] += 1
        self.assertGreater(min(found.values()), 5)

    def test_all_single_reasons(self):
        look = Look((2, "0010", (((0, 0), (1, 1)), ((0, 0), (0, 0)), ((1, 0), (0, 0)), ((1, 0), (1, 0)))))
        reasons = least_free(look.wish)[2]
        rows = list(itertools.product((0, 1), repeat=2)) + [(0,), (0, 0, 0), (True, 1), (0, False), [0, 0], "00", 0]
        for at, (product, why) in enumerate(reasons):
            for kind in ("row", "change", "rows", "", None, 0):
                for what in rows + list(range(-5, 6)) + [True, False, None, "0", "1", (), {}, 10 ** 39, ("row", 0)]:
                    other = reasons[:at] + ((product, (kind, what)),) + reasons[at + 1:]
                    self.check_reasons(look, "10", other)

    def test_another_asked_product(self):
        """Of one that an allowed product holds nothing is a reason."""
        chance = random.Random(216)
        for wish in made_wishes(217, 80, 3, 4):
            look = Look(wish)
            for asked in look.asked:
                reasons = tuple(chance.choice(every_reason(look, product) or [(product, ("change", 0))])
                                for product in sorted(look.rows) if look.holds(product, asked))
                held = any(look.holds(product, asked) for product in look.allowed)
                self.assertIs(self.check_reasons(look, asked, reasons), not held)

    def test_of_anything(self):
        look = Look((2, "0010", (((0, 0), (1, 1)),)))
        reasons = least_free(look.wish)[2]
        self.assertTrue(self.check_reasons(look, "10", reasons))
        for thing in odd_things():
            for other in (thing, (thing,) * 4, reasons[:3] + (thing,), reasons[:3] + (("10", thing),),
                          reasons[:3] + ((thing, ("change", 0)),), reasons[:3] + (("10", (thing, 0)),),
                          reasons + (thing,), list(reasons), dict(reasons)):
                self.assertFalse(self.check_reasons(look, "10", other))
            last = reasons[:3] + (("10", ("change", thing)),)
            self.assertIs(self.check_reasons(look, "10", last), thing.__class__ is int and thing == 0)

    def test_many_changes(self):
        """Numbers of changes far behind are right, too."""
        change = ((0, 0), (1, 1))
        wish = (2, "0010", (((0, 0), (0, 0)),) * 63 + (change,))
        look = Look(wish)
        reasons = least_free(wish)[2]
        self.assertEqual(reasons[-1], ("10", ("change", 63)))
        self.assertTrue(self.check_reasons(look, "10", reasons))
        self.assertFalse(self.check_reasons(look, "10", reasons[:-1] + (("10", ("change", 62)),)))
        self.assertFalse(self.check_reasons(look, "10", reasons[:-1] + (("10", ("change", 64)),)))
        self.assertFalse(self.check_reasons(look, "10", reasons[:-1] + (("10", ("change", -1)),)))


if __name__ == "__main__":
    unittest.main()
