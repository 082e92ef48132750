"""Pairs of words, and the word of one gate."""

from glitchnet.nets import choices_of, table_worth


def pairs_of(word):
    """The worths that waves which a word lets may have at two times, one no later than the other; rising."""
    first, last, fro = word
    if fro:
        return (0, 0), (0, 1), (1, 0), (1, 1)
    return tuple(sorted(set([(first, first), (first, last), (last, last)])))


def gate_word(table, words):
    """The word of a gate, by its table and the words of its ins."""
    first = table_worth(table, [word[0] for word in words])
    last = table_worth(table, [word[1] for word in words])
    return first, last, goes_fro(table, words, first, last)


def goes_fro(table, words, first, last):
    """Whether a gate with this first and last worth may go to and fro between them."""
    for pairs in choices_of([pairs_of(word) for word in words]):
        early, late = pair_by(table, pairs)
        if first == last and early != first:
            return True
        if first != last and early == last and late == first:
            return True
    return False


def pair_by(table, pairs):
    """A gate's worths at two times, by those of its ins."""
    return table_worth(table, [p for p, q in pairs]), table_worth(table, [q for p, q in pairs])


def gate_pairs(table, options):
    """All pairs of a gate, by the pairs that each of its ins may have; rising."""
    return tuple(sorted(set([pair_by(table, pairs) for pairs in choices_of(options)])))


def pairs_for(table, options, wanted):
    """A pair of each in's options by which the gate has the wanted pair; there is one where any has it."""
    for pairs in choices_of(options):
        if pair_by(table, pairs) == wanted:
            return pairs
    return None


def pairs_read(net, options, wire, wanted):
    """For each reading of an input below a wire of a formula a pair, so that the wire has the wanted one; by the pairs
    that each in of each gate may have."""
    many, gates = net
    wanted_of = {wire: wanted}
    found = {}
    for gate in range(wire - many, -1, -1):
        if many + gate not in wanted_of:
            continue
        table, ins = gates[gate]
        pairs = pairs_for(table, options[gate], wanted_of[many + gate])
        for place, read in enumerate(ins):
            if read < many:
                found[(gate, place)] = pairs[place]
            else:
                wanted_of[read] = pairs[place]
    return found
