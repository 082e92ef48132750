import random
import unittest

from glitchnet.counting import greatest
from glitchnet.covers import is_cover
from glitchnet.delaying import is_delays, no_delays
from glitchnet.errors import TooMany
from glitchnet.findings import finding_holds
from glitchnet.leasts import least_free
from glitchnet.ledgers import ledger_of
from glitchnet.nets import is_change, is_net
from glitchnet.ordering import delays_for
from glitchnet.running import waves_of
from glitchnet.turns import turned
from glitchnet.wishes import is_wish
from tests.helpers import (
    XOR, all_changes, all_products, check_kept, counted_net, doubling_net, great_net, in_a_moment, made_form,
    made_formulas, made_forms, made_runs, made_wishes, odd_things, others_of, places_in, put_in, size_of)
from tests.test_forms import walked_form
from tests.test_leastchecks import drawn_paper, walked_reasons, walked_shown
from tests.test_leasts import Look
from tests.test_ledgers import walked_holds
from tests.test_turns import drawn_turns, led, walked
from tests.test_wishes import walked_asked, walked_free

UP = ((0,), (1,))


def is_int(thing):
    return thing.__class__ is int


def is_question(net, change, wire, many):
    if not is_net(net) or not is_change(net[0], change) or not is_int(many):
        return False
    return is_int(wire) and wire in range(net[0] + len(net[1]))


def shows_so(net, change, delays, wire, many):
    if not is_question(net, change, wire, many) or not is_delays(net, delays):
        return False
    try:
        return len(waves_of(net, delays, change)[wire][1]) == many
    except TooMany:
        return False


def lets_so(net, change, wire, many, ledger):
    if not is_question(net, change, wire, many) or ledger.__class__ is not tuple or len(ledger) != len(net[1]):
        return False
    for part in ledger:
        if part.__class__ is not tuple or not part or not all(is_int(number) and number >= 0 for number in part):
            return False
    numbers = [int(before != after) for before, after in zip(*change)]
    for (table, ins), part in zip(net[1], ledger):
        size = 1
        for read in ins:
            size *= numbers[read] + 1
        if len(part) != size:
            return False
        numbers.append(part[0])
    return walked_holds(net, change, ledger) and numbers[wire] <= many


def free_so(wish, cover):
    return is_wish(wish) and is_cover(cover) and cover[0] == wish[0] and walked_free(wish, cover)


def least_so(wish, cover, paper):
    if not free_so(wish, cover):
        return False
    look = Look(wish)
    return walked_shown(look, look.asked, paper) == len(cover[1])


def none_so(wish, asked, reasons):
    return is_wish(wish) and asked in walked_asked(wish) and walked_reasons(Look(wish), asked, reasons)


def turned_so(one, other, paper):
    return walked_form(6, one) and walked_form(6, other) and led(one, other, paper)


SORTS = {"shows": (shows_so, 5), "lets": (lets_so, 5), "free": (free_so, 2), "least": (least_so, 3),
         "none": (none_so, 3),
         "turned": (turned_so, 3)}


def walked_finding(thing):
    """Whether it is a finding that holds, as the document tells it."""
    if thing.__class__ is not tuple or not thing or thing[0].__class__ is not str or thing[0] not in SORTS:
        return False
    so, count = SORTS[thing[0]]
    return len(thing) == count + 1 and so(*thing[1:])


class FindingsTest(unittest.TestCase):
    def told(self, thing):
        told = check_kept(self, finding_holds, thing)
        self.assertIsInstance(told, bool)
        return told

    def check_others(self, chance, finding, count=60):
        """The finding holds; with one thing put otherwise it does just where that is so."""
        self.assertIs(self.told(finding), True)
        self.assertTrue(walked_finding(finding))
        others = others_of(finding)
        found = 0
        for other in chance.sample(others, min(len(others), count)):
            right = walked_finding(other)
            self.assertIs(self.told(other), right, other)
            found += right
        return found

    def test_shows(self):
        chance = random.Random(351)
        found = 0
        for net, delays, change in made_runs(352, 60, 4, 3):
            waves = waves_of(net, delays, change)
            for wire, (first, times) in enumerate(waves):
                self.assertIs(self.told(("shows", net, change, delays, wire, len(times))), True)
                for other in (len(times) + 1, len(times) - 1, len(times) + 2, 200, 10 ** 39):
                    self.assertIs(self.told(("shows", net, change, delays, wire, other)), False)
            wire = chance.randrange(len(waves))
            found += self.check_others(chance, ("shows", net, change, delays, wire, len(waves[wire][1])))
        self.assertGreater(found, 100)

    def test_what_delays_for_tells(self):
        for net, change in made_formulas(353, 60, 5):
            numbers = greatest(net, change)
            for wire, number in enumerate(numbers):
                for many in range(number & 1, number + 1, 2):
                    delays = delays_for(net, change, wire, many)
                    self.assertIs(self.told(("shows", net, change, delays, wire, many)), True)

    def test_shows_of_a_run_that_is_refused(self):
        net, delays = counted_net(200)
        last = len(net[1])
        self.assertIs(self.told(("shows", net, UP, delays, last, 200)), True)
        net, delays = counted_net(201)
        last = len(net[1])
        for many in (0, 1, 200, 201):
            self.assertIs(self.told(("shows", net, UP, delays, last, many)), False)
        # A wire ahead of the refused one, too: the run as a whole isn't told.
        self.assertIs(self.told(("shows", net, UP, delays, 0, 1)), False)
        net, delays = doubling_net(40)
        self.assertIs(in_a_moment(lambda: self.told(("shows", net, UP, delays, 40, 2))), False)

    def test_shows_of_wires_and_numbers_that_are_none(self):
        net, delays = (1, (("10", (0,)),)), ((0,),)
        for wire in range(-3, 5):
            self.assertIs(self.told(("shows", net, UP, delays, wire, 1)), wire in (0, 1))
        for many in (True, "1", None, (1,), [1], -1, 0, 2):
            self.assertIs(self.told(("shows", net, UP, delays, 1, many)), False)
            self.assertIs(self.told(("shows", net, UP, delays, many, 1)), is_int(many) and many == 0)

    def test_lets(self):
        chance = random.Random(354)
        found = 0
        for net, delays, change in made_runs(355, 60, 4):
            try:
                ledger = ledger_of(net, change)
            except TooMany:
                continue
            numbers = greatest(net, change)
            for wire, number in enumerate(numbers):
                for many in (number - 1, number, number + 1, number + 10 ** 30):
                    self.assertIs(self.told(("lets", net, change, wire, many, ledger)), many >= number)
            wire = chance.randrange(len(numbers))
            if sum(map(len, ledger)) < 60:
                found += self.check_others(chance, ("lets", net, change, wire, numbers[wire], ledger))
        self.assertGreater(found, 20)

    def test_greater_ledgers(self):
        net = (1, ((XOR, (0, 0)),))
        self.assertIs(self.told(("lets", net, UP, 1, 2, ((2, 1, 1, 0),))), True)
        self.assertIs(self.told(("lets", net, UP, 1, 5, ((5, 3, 2, 1),))), True)
        self.assertIs(self.told(("lets", net, UP, 1, 4, ((5, 3, 2, 1),))), False)
        self.assertIs(self.told(("lets", net, UP, 1, 1, ((1, 1, 1, 0),))), False)
        self.assertIs(self.told(("lets", net, UP, 0, 1, ((5, 3, 2, 1),))), True)
        self.assertIs(self.told(("lets", net, UP, 0, 0, ((5, 3, 2, 1),))), False)
        self.assertIs(self.told(("lets", net, ((1,), (1,)), 0, 0, ((0,),))), True)
        self.assertIs(self.told(("lets", net, UP, 1, 2, ((2, 1, 1, False),))), False)

    def test_free_least_and_none(self):
        chance = random.Random(356)
        kinds = []
        for wish in made_wishes(357, 60, 3, 4):
            told = least_free(wish)
            kinds.append(told[0])
            if told[0] == "none":
                self.check_others(chance, ("none", wish, told[1], told[2]), 40)
            else:
                self.check_others(chance, ("free", wish, told[1]), 40)
                self.check_others(chance, ("least", wish, told[1], told[2]), 40)
        self.assertEqual(set(kinds), {"least", "none"})

    def test_free_covers_that_are_not_least(self):
        wish = (2, "0111", ())
        paper = least_free(wish)[2]
        self.assertIs(self.told(("least", wish, (2, ("-1", "1-")), paper)), True)
        for products in (("-1", "1-", "11"), ("01", "1-", "-1"), ("-1", "1-", "1-")):
            self.assertIs(self.told(("free", wish, (2, products))), True)
            self.assertIs(self.told(("least", wish, (2, products), paper)), False)
        self.assertIs(self.told(("free", wish, (2, ("-1",)))), False)
        self.assertIs(self.told(("least", wish, (2, ("-1", "1-")), ("apart", ("01",)))), False)
        self.assertIs(self.told(("least", wish, (2, ("-1", "1-")), ("apart", ("01", "10")))), True)

    def test_papers_of_another_hand(self):
        chance = random.Random(358)
        found = {True: 0, False: 0}
        for wish in made_wishes(359, 60, 3, 4):
            told = least_free(wish)
            if told[0] == "least":
                look = Look(wish)
                for turn in range(4):
                    paper = drawn_paper(chance, look, look.asked, 2)
                    right = walked_shown(look, look.asked, paper) == len(told[1][1])
                    self.assertIs(self.told(("least", wish, told[1], paper)), right)
                    found[right] += 1
        self.assertGreater(min(found.values()), 5)

    def test_none_of_any_such_asked_one(self):
        """Not the first one alone; but an asked one it is."""
        wish = (2, "0110", (((0, 1), (1, 0)), ((0, 0), (1, 1))))
        look = Look(wish)
        found = []
        for product in all_products(2):
            reasons = []
            for holding in sorted(look.rows):
                if look.holds(holding, product):
                    zeros = [row for row in sorted(look.rows[holding]) if sum(row) != 1]
                    reasons.append((holding, ("row", zeros[0]) if zeros else ("change", 1)))
            told = self.told(("none", wish, product, tuple(reasons)))
            self.assertIs(told, product in ("--", "01", "10"))
            found.append(told)
        self.assertEqual(sum(found), 3)

    def test_turned(self):
        chance = random.Random(360)
        for many, form in made_forms(361, 30, 4, 8):
            paper, other = drawn_turns(chance, form, chance.randint(0, 3))
            self.check_others(chance, ("turned", form, other, paper), 50)

    def test_turned_of_six_inputs(self):
        for k in range(9):
            form = ("and", (("in", 0), ("in", k)))
            other = ("and", (("in", k), ("in", 0)))
            self.assertIs(self.told(("turned", form, other, (((), "moved", other),))), k < 6)
            self.assertIs(self.told(("turned", form, form, ())), k < 6)

    def test_beyond_the_bounds(self):
        """Nets of more than forty gates, covers of more than sixteen products, forms of more than forty parts."""
        net = great_net(90)
        change = ((0, 0), (1, 0))
        waves = waves_of(net, no_delays(net), change)
        for wire in (0, 40, 91):
            count = len(waves[wire][1])
            self.assertIs(self.told(("shows", net, change, no_delays(net), wire, count)), True)
            self.assertIs(self.told(("shows", net, change, no_delays(net), wire, count + 1)), False)
        chain = (1, tuple(("10", (wire,)) for wire in range(300)))
        self.assertIs(self.told(("lets", chain, UP, 300, 1, ((1, 0),) * 300)), True)
        self.assertIs(self.told(("lets", chain, UP, 300, 0, ((1, 0),) * 300)), False)
        rows = tuple(row for row in all_products(4) if "-" not in row)
        wish = (4, "1" * 16, ())
        self.assertIs(self.told(("free", wish, (4, rows + ("1---", "0---")))), True)
        self.assertIs(self.told(("free", wish, (4, rows[1:] + ("1---",) * 9))), False)
        many_changes = (4, "1" * 16, tuple(all_changes(4)))
        self.assertIs(self.told(("least", many_changes, (4, ("----",)), ("apart", ("0000",)))), True)
        great = made_form(random.Random(362), 6, 70)
        self.assertIs(self.told(("turned", great, great, ())), True)
        self.assertIs(self.told(("turned", great, ("not", great), ())), False)
        shut = ("and", (("nought",), great))
        self.assertIs(self.told(("turned", shut, ("nought",), (((), "bound", ("nought",)),))), True)
        self.assertIs(self.told(("turned", shut, shut, ())), True)

    def test_a_ledger_of_more_than_four_thousand_numbers(self):
        net = (1, ((XOR, (0, 0)), (XOR, (1, 1)), (XOR, (2, 2))) + (("0" * 8, (3, 3, 3)),) * 8)
        ledger = [part for part in ledger_of((1, net[1][:4]), UP)]
        ledger += [ledger[3]] * 7
        self.assertGreater(sum(map(len, ledger)), 4000)
        self.assertIs(in_a_moment(lambda: self.told(("lets", net, UP, 11, 0, tuple(ledger)))), True)
        with self.assertRaises(TooMany):
            ledger_of(net, UP)

    def test_other_sorts_and_lengths(self):
        wish, cover = (1, "01", ()), (1, ("1",))
        right = ("free", wish, cover)
        self.assertIs(self.told(right), True)
        for thing in (right[1:], right + ((),), right[:2], ("Free",) + right[1:], ("free ",) + right[1:],
                      (None,) + right[1:],
                      (["free"],) + right[1:], ({},) + right[1:], (("free",),) + right[1:], ("least",) + right[1:],
                      ("none",) + right[1:], list(right), ("free", cover, wish), ("free", (wish, cover)),
                      {"free": wish},
                      ("free", list(wish), cover), ("free", wish, list(cover)), (right,), ("shows",), ("turned",),
                      ("",), (0,)):
            self.assertIs(self.told(thing), False)

    def test_of_anything(self):
        rights = [
            ("shows", (1, (("10", (0,)),)), UP, ((0,),), 1, 1), ("lets", (1, (("10", (0,)),)), UP, 1, 1, ((1, 0),)),
            ("free", (1, "01", ()), (1, ("1",))), ("least", (1, "01", ()), (1, ("1",)), ("apart", ("1",))),
            ("none", (2, "0010", (((0, 0), (1, 1)),)), "10") + least_free((2, "0010", (((0, 0), (1, 1)),)))[2:],
            ("turned", ("not", ("not", ("one",))), ("one",), (((), "twice", ("one",)),)),
            ("turned", ("one",), ("one",), ())]
        for right in rights:
            self.assertIs(self.told(right), True)
        for thing in odd_things():
            self.assertIs(self.told(thing), False)
            for right in rights:
                for at in range(len(right)):
                    other = right[:at] + (thing,) + right[at + 1:]
                    self.assertIs(self.told(other), walked_finding(other), other)

    def test_great_things_end_in_a_moment(self):
        net = (1, tuple(("01101001", (wire, wire, wire)) for wire in range(1500)))
        self.assertIs(in_a_moment(lambda: finding_holds(("shows", net, UP, no_delays(net), 1500, 1))), True)
        changes = tuple(all_changes(4)) * 5
        wish = (4, "1" * 16, changes)
        self.assertIs(in_a_moment(lambda: finding_holds(("least", wish, (4, ("----",)), ("apart", ("0000",))))), True)
        form = ("and", (("in", 0), ("in", 1)))
        other = ("and", (("in", 1), ("in", 0)))
        paper = (((), "moved", other), ((), "moved", form)) * 900
        self.assertIs(in_a_moment(lambda: finding_holds(("turned", form, form, paper))), True)

    def test_what_turned_tells(self):
        chance = random.Random(363)
        for many, form in made_forms(364, 40, 6, 30):
            place, part = chance.choice(places_in(form))
            for rule, new in sorted(walked(part), key=repr):
                if size_of(put_in(form, place, new)) <= 40:
                    other = turned(form, (place, rule, new))
                    self.assertIs(self.told(("turned", form, other, ((place, rule, new),))), True)


if __name__ == "__main__":
    unittest.main()
