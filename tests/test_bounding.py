import itertools
import random
import unittest

from glitchnet.bounding import is_bounds, within
from glitchnet.delaying import is_delays
from glitchnet.networds import words_of
from glitchnet.running import waves_of
from glitchnet.wording import word_of
from tests.helpers import (
    XOR, XOR3, all_changes, below, check_kept, in_a_moment, input_readings, is_plain, made_change, made_formulas,
    made_tree, odd_things, others_of)

UP = ((0,), (1,))
FLASH = (1, (("10", (0,)), ("0001", (0, 1))))


def made_bounds(chance, net, most, wide):
    """Bounds by chance: leasts up to the most, so wide at the widest."""
    many, gates = net
    parts = []
    for table, ins in gates:
        part = []
        for wire in ins:
            least = chance.randint(0, most)
            part.append((least, least + (chance.randint(0, wide) if wire < many else 0)))
        parts.append(tuple(part))
    return tuple(parts)


def all_delays(net, bounds, readings):
    """All delays within the bounds, as far as these readings are unlike; the others at their least."""
    least = [[pair[0] for pair in part] for part in bounds]
    spans = [range(bounds[gate][place][0], bounds[gate][place][1] + 1) for gate, place in readings]
    for lates in itertools.product(*spans):
        parts = [list(part) for part in least]
        for (gate, place), late in zip(readings, lates):
            parts[gate][place] = late
        yield tuple(map(tuple, parts))


def walked_shows(net, change, bounds, wire):
    """Whether some delays within the bounds show a wire's to and fro, by a walk through all that play a part."""
    many, gates = net
    under = below(net, wire)
    a, b = change
    readings = [(gate, place) for gate, place in input_readings(net)
                if many + gate in under and a[gates[gate][1][place]] != b[gates[gate][1][place]]]
    return any(len(waves_of(net, delays, change)[wire][1]) > 1 for delays in all_delays(net, bounds, readings))


def walked_bounds(net, thing):
    """Whether it is bounds of a formula, as the document tells it."""
    many, gates = net
    if thing.__class__ is not tuple or len(thing) != len(gates):
        return False
    for (table, ins), part in zip(gates, thing):
        if part.__class__ is not tuple or len(part) != len(ins):
            return False
        for wire, pair in zip(ins, part):
            if pair.__class__ is not tuple or len(pair) != 2 or any(end.__class__ is not int for end in pair):
                return False
            if not 0 <= pair[0] <= pair[1] or wire >= many and pair[0] != pair[1]:
                return False
    return True


class IsBoundsTest(unittest.TestCase):
    def told(self, net, thing):
        told = check_kept(self, is_bounds, net, thing)
        self.assertIsInstance(told, bool)
        return told

    def test_drawn_bounds(self):
        chance = random.Random(321)
        for net, change in made_formulas(322, 80):
            for most, wide in ((0, 0), (3, 4), (10 ** 30, 10 ** 30), (0, 10 ** 39)):
                bounds = made_bounds(chance, net, most, wide)
                self.assertIs(self.told(net, bounds), True)

    def test_one_thing_put_otherwise(self):
        chance = random.Random(323)
        found = {True: 0, False: 0}
        for net, change in made_formulas(324, 40, 5):
            others = others_of(made_bounds(chance, net, 2, 2))
            for other in chance.sample(others, min(len(others), 80)):
                right = walked_bounds(net, other)
                self.assertIs(self.told(net, other), right)
                found[right] += 1
        self.assertGreater(min(found.values()), 100)

    def test_other_bounds(self):
        net = FLASH
        for pair in ((0, 0), (0, 5), (3, 3), (10 ** 30, 10 ** 30)):
            self.assertIs(self.told(net, ((pair,), (pair, (1, 1)))), True)
            self.assertIs(self.told(net, ((pair,), (pair, pair))), pair[0] == pair[1])
        for pair in ((1, 0), (-1, 0), (-1, -1), (0, -1), (0,), (0, 1, 2), (), [0, 1], "01", None, 0, (0, True),
                     (False, 1),
                     (False, True), ("0", "1"), (0, None), {0: 1}, (0, (1,)), ((0, 1),), True):
            self.assertIs(self.told(net, ((pair,), ((0, 0), (0, 0)))), False)
            self.assertIs(self.told(net, (((0, 0),), (pair, (0, 0)))), False)
            self.assertIs(self.told(net, (((0, 0),), ((0, 0), pair))), False)

    def test_readings_of_gates(self):
        for pair in ((0, 1), (3, 4), (0, 10 ** 30)):
            self.assertIs(self.told(FLASH, (((0, 0),), ((0, 0), pair))), False)
            self.assertIs(self.told(FLASH, (((0, 0),), (pair, (0, 0)))), True)

    def test_of_anything(self):
        for thing in odd_things():
            for other in (thing, (thing, thing), (((0, 0),), thing), ((thing,), ((0, 0), (0, 0))),
                          (((0, 0),), ((thing, 9), (0, 0))), (((0, 0),), ((0, 0), (thing, thing)))):
                self.assertIs(self.told(FLASH, other), walked_bounds(FLASH, other))

    def test_delays_themselves_are_none(self):
        self.assertIs(self.told(FLASH, ((0,), (0, 0))), False)


class WithinTest(unittest.TestCase):
    def told(self, net, change, bounds, wire):
        """What is told: delays within the bounds that show it, or that there are none."""
        told = check_kept(self, within, net, change, bounds, wire)
        self.assertTrue(is_plain(told))
        if told == ("never",):
            return False
        kind, delays = told
        self.assertEqual(kind, "shows")
        self.assertTrue(is_delays(net, delays))
        for part, spans in zip(delays, bounds):
            for late, (least, most) in zip(part, spans):
                self.assertTrue(least <= late <= most)
        self.assertTrue(word_of(waves_of(net, delays, change)[wire])[2])
        return True

    def test_against_all_delays(self):
        chance = random.Random(331)
        found = {True: 0, False: 0}
        for net, change in made_formulas(332, 160, 5):
            if len(input_readings(net)) > 6:
                continue
            for most, wide in ((0, 1), (2, 2), (3, 1)):
                bounds = made_bounds(chance, net, most, wide)
                for wire in range(net[0], net[0] + len(net[1])):
                    right = walked_shows(net, change, bounds, wire)
                    self.assertIs(self.told(net, change, bounds, wire), right)
                    if words_of(net, change)[wire][2]:
                        found[right] += 1
        self.assertGreater(min(found.values()), 30)

    def test_trees_against_all_delays(self):
        """Few readings, gates in chains with delays of their own."""
        chance = random.Random(333)
        found = {True: 0, False: 0}
        for turn in range(150):
            many = chance.randint(1, 3)
            net = made_tree(chance, many, chance.randint(3, 9), chance.randint(2, 5))
            change = made_change(chance, many)
            bounds = made_bounds(chance, net, 3, chance.choice((0, 1, 2, 3)))
            wire = many + len(net[1]) - 1
            right = walked_shows(net, change, bounds, wire)
            self.assertIs(self.told(net, change, bounds, wire), right)
            found[right] += 1
        self.assertGreater(min(found.values()), 20)

    def test_two_readings_with_all_small_bounds(self):
        spans = [(least, most) for least in range(4) for most in range(least, 4)]
        for table in ("0001", "0010", XOR, "0111", "1011"):
            for one, other in itertools.product(spans, repeat=2):
                net, bounds = (2, ((table, (0, 1)),)), ((one, other),)
                for change in all_changes(2):
                    self.assertIs(self.told(net, change, bounds, 2), walked_shows(net, change, bounds, 2))

    def test_last_is_first_turned_about(self):
        """Up with to and fro: three readings, two times apart."""
        net = (1, ((XOR3, (0, 0, 0)),))
        for spans in itertools.product([(0, 0), (0, 1), (1, 1), (1, 2), (0, 2)], repeat=3):
            self.assertIs(self.told(net, UP, (spans,), 1), walked_shows(net, UP, (spans,), 1))

    def test_neighbouring_times(self):
        """What comes at two times that stand side by side within one span."""
        net = (1, ((XOR3, (0, 0, 0)),))
        self.assertIs(self.told(net, UP, (((5, 7), (5, 7), (5, 7)),), 1), True)
        self.assertIs(self.told(net, UP, (((5, 6), (5, 6), (5, 6)),), 1), False)
        self.assertIs(self.told(net, UP, (((5, 6), (5, 6), (7, 7)),), 1), True)
        self.assertIs(self.told(net, UP, (((5, 5), (5, 5), (7, 9)),), 1), False)

    def test_inputs_never_go_to_and_fro(self):
        for net, change in made_formulas(334, 20):
            for wire in range(net[0]):
                self.assertEqual(within(net, change, made_bounds(random.Random(1), net, 2, 2), wire), ("never",))

    def test_bounds_of_one_delay_each(self):
        chance = random.Random(335)
        found = {True: 0, False: 0}
        for net, change in made_formulas(336, 200):
            bounds = made_bounds(chance, net, 4, 0)
            delays = tuple(tuple(pair[0] for pair in part) for part in bounds)
            waves = waves_of(net, delays, change)
            for wire, wave in enumerate(waves):
                right = word_of(wave)[2]
                found[right] += 1
                self.assertIs(self.told(net, change, bounds, wire), right)
                if right:
                    self.assertEqual(within(net, change, bounds, wire), ("shows", delays))
        self.assertGreater(found[True], 30)

    def test_wide_bounds_show_just_what_the_words_tell(self):
        chance = random.Random(337)
        found = {True: 0, False: 0}
        for net, change in made_formulas(338, 150, 12):
            many, gates = net
            great = chance.choice((10 ** 3, 10 ** 30))
            bounds = tuple(tuple((0, great) if wire < many else (chance.randint(0, 5),) * 2 for wire in ins)
                           for table, ins in gates)
            for wire, word in enumerate(words_of(net, change)):
                self.assertIs(self.told(net, change, bounds, wire), word[2])
                found[word[2]] += 1
        self.assertGreater(min(found.values()), 100)

    def test_great_bounds(self):
        """Bounds many times as great tell at least what the small ones tell; those of one delay just the same."""
        chance = random.Random(339)
        most = 10 ** 29
        for net, change in made_formulas(340, 100):
            small = made_bounds(chance, net, 4, 3)
            great = tuple(tuple((least * most, late * most) for least, late in part) for part in small)
            for wire in range(net[0], net[0] + len(net[1])):
                if self.told(net, change, small, wire):
                    self.assertTrue(self.told(net, change, great, wire))
        self.assertEqual(within(FLASH, UP, (((10 ** 30,) * 2,), ((10 ** 30 - 1,) * 2, (0, 0))), 2),
                         ("shows", ((10 ** 30,), (10 ** 30 - 1, 0))))
        self.assertEqual(within(FLASH, UP, (((10 ** 30,) * 2,), ((10 ** 30,) * 2, (0, 0))), 2), ("never",))

    def test_delays_of_gates_count(self):
        for late in range(6):
            bounds = (((1, 2),), ((3, 3), (late, late)))
            self.assertIs(self.told(FLASH, UP, bounds, 2), late + 2 > 3)

    def test_readings_elsewhere_stay_within_their_bounds(self):
        """Gates that aren't below the wire, and inputs that don't change."""
        net = (2, (("10", (0,)), ("0001", (0, 2)), (XOR, (1, 1))))
        bounds = (((4, 9),), ((0, 3), (1, 1)), ((7, 8), (2, 10 ** 30)))
        self.assertIs(self.told(net, ((0, 0), (1, 0)), bounds, 3), True)
        self.assertIs(self.told(net, ((0, 0), (1, 0)), bounds, 4), False)
        self.assertIs(self.told(net, ((0, 0), (1, 1)), bounds, 4), True)

    def test_forty_gates_with_twelve_readings_end_in_a_moment(self):
        chance = random.Random(341)
        found = {True: 0, False: 0}
        for turn in range(40):
            many = chance.randint(1, 6)
            net = made_tree(chance, many, 40, 12)
            self.assertEqual(len(input_readings(net)), 12)
            change = (((0,) * many, (1,) * many), made_change(chance, many))[turn % 2]
            for most, wide in ((0, 10 ** 30), (10, 12), (10 ** 30, 10 ** 30), (30, 2)):
                bounds = made_bounds(chance, net, most, wide)
                for wire in (many + 39, many + 38, many + 30):
                    found[in_a_moment(lambda: self.told(net, change, bounds, wire))] += 1
        self.assertGreater(min(found.values()), 50)

    def test_great_trees_with_bounds_of_two_delays(self):
        """Twelve readings, four of which have two delays: against all sixteen."""
        chance = random.Random(342)
        found = {True: 0, False: 0}
        for turn in range(60):
            net = made_tree(chance, 2, 25, 12)
            bounds = [list(part) for part in made_bounds(chance, net, 6, 0)]
            for gate, place in chance.sample(input_readings(net), 4):
                least = bounds[gate][place][0]
                bounds[gate][place] = (least, least + chance.randint(1, 2))
            bounds = tuple(map(tuple, bounds))
            change = ((0, chance.randint(0, 1)), (1, chance.randint(0, 1)))
            right = walked_shows(net, change, bounds, 26)
            self.assertIs(self.told(net, change, bounds, 26), right)
            found[right] += 1
        self.assertGreater(min(found.values()), 10)


if __name__ == "__main__":
    unittest.main()
