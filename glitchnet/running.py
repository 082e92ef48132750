"""Runs: the waves of all wires, by told delays."""

from glitchnet.errors import TooMany
from glitchnet.kinds import is_whole, is_worth
from glitchnet.nets import table_worth

MOST_CHANGES = 200


def is_wave(thing):
    """Whether it is a wave, however often it changes."""
    if not isinstance(thing, tuple) or len(thing) != 2:
        return False
    first, times = thing
    if not is_worth(first) or not isinstance(times, tuple):
        return False
    if not all(is_whole(time) and time >= 0 for time in times):
        return False
    return all(early < late for early, late in zip(times, times[1:]))


def worth_at(wave, time):
    """The worth of a wave at a time, below 0 too."""
    first, times = wave
    done = sum(1 for turn in times if turn <= time)
    return first ^ (done & 1)


def waves_of(net, delays, change):
    """The waves of all wires; TooMany at the first one that changes more than two hundred times."""
    a, b = change
    waves = [input_wave(before, after) for before, after in zip(a, b)]
    for (table, ins), lates in zip(net[1], delays):
        wave = gate_wave(table, [later(waves[wire], late) for wire, late in zip(ins, lates)])
        if len(wave[1]) > MOST_CHANGES:
            raise TooMany("a wire changes more than two hundred times")
        waves.append(wave)
    return tuple(waves)


def input_wave(before, after):
    """The wave that has one worth below 0 and the other one from 0 on."""
    times = () if before == after else (0,)
    return before, times


def later(wave, delay):
    """The wave as it comes out of a reading with a delay."""
    first, times = wave
    return first, tuple(time + delay for time in times)


def gate_wave(table, waves):
    """The wave of a gate, by the waves that come to its ins."""
    worths = [first for first, times in waves]
    first = table_worth(table, worths)
    now = first
    times = []
    for time, places in turns_of(waves):
        for place in places:
            worths[place] = 1 - worths[place]
        if table_worth(table, worths) != now:
            now = 1 - now
            times.append(time)
    return first, tuple(times)


def turns_of(waves):
    """The times at which some of the waves change, rising, each with the places of those that do."""
    places_at = {}
    for place, (first, times) in enumerate(waves):
        for time in times:
            places_at.setdefault(time, []).append(place)
    return [(time, places_at[time]) for time in sorted(places_at)]
