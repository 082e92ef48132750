"""What the formula of a form may show, and shows by told delays."""

from glitchnet.forms import inner_of, still_worth
from glitchnet.pairing import pairs_for, pairs_of
from glitchnet.running import gate_wave, input_wave, later
from glitchnet.showing import input_delay


def form_word(form, change):
    """The word of a form at a change."""
    first, number = most_of(form, change)
    # Of a formula the greatest number is shown: so it goes to and fro just where this is above 1.
    return first, first ^ (number & 1), number > 1


def form_greatest(form, change):
    """How often a form changes at the most, however often that is."""
    return most_of(form, change)[1]


def most_of(form, change):
    """A form's first worth, and how often it changes at the most."""
    a, b = change
    head = form[0]
    if head == "in":
        return a[form[1]], a[form[1]] ^ b[form[1]]
    still = still_worth(form)
    if still is not None:
        return still, 0
    parts = [most_of(part, change) for part in inner_of(form)]
    if head == "not":
        return about(parts[0])
    if head == "and":
        return most_of_and(parts)
    return about(most_of_and([about(part) for part in parts]))


def about(most):
    """The same of the not."""
    first, number = most
    return 1 - first, number


def most_of_and(parts):
    """The first worth and the greatest number of an and, by those of its parts."""
    first = min(begin for begin, number in parts)
    last = min(begin ^ (number & 1) for begin, number in parts)
    ups = [(number + 1 + begin) // 2 for begin, number in parts]
    # Between two times up of an and one of its parts goes down and up again, while
    # the others can stay up: so each time up of a part but its first one gives one more.
    spells = 1 + sum(up - 1 for up in ups) if min(ups) else 0
    return first, 2 * spells - first - last


def form_wave(form, delays, change):
    """The wave of a form, by a delay for each input that is written in it."""
    return wave_from(form, list(delays[::-1]), change)


def wave_from(form, lates, change):
    """The wave of a form that takes its delays from the end of a list."""
    a, b = change
    if form[0] == "in":
        return later(input_wave(a[form[1]], b[form[1]]), lates.pop())
    still = still_worth(form)
    if still is not None:
        return still, ()
    return gate_wave(form_table(form), [wave_from(part, lates, change) for part in inner_of(form)])


def form_table(form):
    """The table of the gate that a not, an and or an or is."""
    if form[0] == "not":
        return "10"
    rest = (1 << len(form[1])) - 1
    return "0" * rest + "1" if form[0] == "and" else "0" + "1" * rest


def form_shown(form, change):
    """Delays, 0, 1 or 2 each, by which a form goes to and fro, or None where its word has no fro."""
    first, last, fro = form_word(form, change)
    # Below 0 the form is at first: so it has gone to and fro by time 1.
    return lates_by(form, change, (1 - first, first)) if fro else None


def lates_by(form, change, pair):
    """Delays by which a form has this pair of its word at the times 0 and 1."""
    if form[0] == "in":
        return (input_delay(form_word(form, change), pair),)
    inner = inner_of(form)
    if not inner:
        return ()
    options = [pairs_of(form_word(part, change)) for part in inner]
    lates = ()
    for part, wanted in zip(inner, pairs_for(form_table(form), options, pair)):
        lates = lates + lates_by(part, change, wanted)
    return lates
