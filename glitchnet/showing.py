"""Delays that show a wire's to and fro, of a formula."""

from glitchnet.delaying import no_delays
from glitchnet.errors import NotFormula
from glitchnet.networds import is_formula, words_of
from glitchnet.pairing import pairs_of, pairs_read


def shown(net, change, wire):
    """Delays by which a wire goes to and fro, or None where its word has no fro; NotFormula of other nets."""
    if not is_formula(net):
        raise NotFormula("a gate is read at more than one place")
    words = words_of(net, change)
    first, last, fro = words[wire]
    if not fro:
        return None
    # Below 0 the wire is at first: so it has gone to and fro by time 1.
    return delays_by(net, words, wire, (1 - first, first))


def delays_by(net, words, wire, pair):
    """Delays by which a wire has this pair of its word at the times 0 and 1."""
    gates = net[1]
    options = [[pairs_of(words[read]) for read in ins] for table, ins in gates]
    delays = [list(part) for part in no_delays(net)]
    for (gate, place), read_pair in pairs_read(net, options, wire, pair).items():
        delays[gate][place] = input_delay(words[gates[gate][1][place]], read_pair)
    return tuple(tuple(part) for part in delays)


def input_delay(word, pair):
    """The delay, 0, 1 or 2, by which an input is read with this pair of its word at the times 0 and 1."""
    return sum(1 for worth in pair if worth != word[1])
