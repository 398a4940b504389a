"""Rotas walked day by day: their faults, their cost, and what they leave.

What is held is a pair: what is in the store, and the tuple of what is in the tanks.
"""

from lamprota.books import can_burn, rises


def ticks_of_spans(lamps, spans):
    """The tuple of the ticks that each of so many lamps burns."""
    ticks = {}
    for lamp, start, end in spans:
        ticks[lamp] = ticks.get(lamp, 0) + end - start
    return tuple([ticks.get(lamp, 0) for lamp in range(lamps)])


def have_tick_in_common(one, other):
    """True where two rising spans burn one lamp in the same tick."""
    return one[0] == other[0] and other[1] < one[2]


def has_span_fault(length, lamps, spans):
    """True where spans can't be those of a night of this length with so many lamps."""
    for lamp, start, end in spans:
        if not (0 <= lamp < lamps and 0 <= start < end <= length):
            return True
    # Among rising spans those of one lamp stand together, by their starts, so neighbours tell of all.
    return not rises(spans) or any([have_tick_in_common(one, other) for one, other in zip(spans, spans[1:])])


def has_dark_fault(length, wanted, spans):
    """True where, in some tick, not just as many lamps burn as are wanted; of spans without a span fault."""
    # A night may have 10**15 ticks, so only changes are looked at: the wanted lamps are
    # there from the first tick to the end, and what spans change must cancel that out.
    changes = {0: -wanted, length: wanted}
    for lamp, start, end in spans:
        changes[start] = changes.get(start, 0) + 1
        changes[end] = changes.get(end, 0) - 1
    return any([change != 0 for change in changes.values()])


def held_at_first(book):
    """What is held on the first morning."""
    return (book[1], tuple([oil for tank, oil, away in book[2]]))


def filled(tanks, poured):
    """What is in the tanks behind the pouring."""
    return tuple([level + much for level, much in zip(tanks, poured)])


def held_behind(book, held, turn):
    """What is held behind a day and its night that go as the turn tells."""
    store, tanks = held
    taken, bought, poured, spans = turn
    left = store + taken + bought - sum(poured)
    ticks = ticks_of_spans(len(tanks), spans)
    return (min(left, book[0]), tuple([level - burns for level, burns in zip(filled(tanks, poured), ticks)]))


def day_fault(book, day, held, turn):
    """The word of the first fault of a day, ahead of which this is held, or None."""
    boat, most, price, length, wanted = book[3][day]
    store, tanks = held
    taken, bought, poured, spans = turn
    if not 0 <= taken <= boat:
        return "boat"
    if not 0 <= bought <= most:
        return "market"
    if min(poured) < 0 or sum(poured) > store + taken + bought:
        return "pour"
    levels = filled(tanks, poured)
    if any([level > lamp[0] for level, lamp in zip(levels, book[2])]):
        return "tank"
    return night_fault(book, day, levels, spans)


def night_fault(book, day, levels, spans):
    """The word of the first fault of a night, ahead of which these levels are in the tanks, or None."""
    boat, most, price, length, wanted = book[3][day]
    if has_span_fault(length, len(levels), spans):
        return "span"
    if any([not can_burn(book, lamp, day) for lamp, start, end in spans]):
        return "away"
    ticks = ticks_of_spans(len(levels), spans)
    if any([burns > level for burns, level in zip(ticks, levels)]):
        return "oil"
    if has_dark_fault(length, wanted, spans):
        return "dark"
    return None


def fault(book, rota):
    """The pair of the first day of a rota that has a fault, and its word; None where the rota keeps the book."""
    held = held_at_first(book)
    for day, turn in enumerate(rota):
        word = day_fault(book, day, held, turn)
        if word is not None:
            return (day, word)
        held = held_behind(book, held, turn)
    return None


def keeps(book, rota):
    """True where no day of the rota has a fault."""
    return fault(book, rota) is None


def evenings(book, rota):
    """What is held behind each night of a rota that keeps the book: a list."""
    held = held_at_first(book)
    behind = []
    for turn in rota:
        held = held_behind(book, held, turn)
        behind.append(held)
    return behind


def cost(book, rota):
    """What all that is bought costs."""
    return sum([turn[1] * day[2] for turn, day in zip(rota, book[3])])


def burnt(book, rota):
    """The tuple of the ticks that each lamp burns in all nights, of a rota without a span fault."""
    all_spans = []
    for taken, bought, poured, spans in rota:
        all_spans.extend(spans)
    return ticks_of_spans(len(book[2]), all_spans)
