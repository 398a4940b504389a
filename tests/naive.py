"""The document's words on spans and days done tick by tick, slow and plain, to hold the program against."""

WORDS = ("boat", "market", "pour", "tank", "span", "away", "oil", "dark")


def ticks_of(span):
    lamp, start, end = span
    return {(lamp, tick) for tick in range(start, end)}


def span_fault(length, lamps, spans):
    for lamp, start, end in spans:
        if lamp not in range(lamps) or start < 0 or end > length or end <= start:
            return True
    if list(spans) != sorted(set(spans)):
        return True
    for place, one in enumerate(spans):
        for other in spans[:place]:
            if ticks_of(one) & ticks_of(other):
                return True
    return False


def burning(spans, tick):
    return tuple(sorted({lamp for lamp, start, end in spans if tick in range(start, end)}))


def dark_fault(length, wanted, spans):
    return any(len(burning(spans, tick)) != wanted for tick in range(length))


def lit(length, lamps, spans):
    counts = [0] * lamps
    ahead = ()
    for tick in range(length):
        now = burning(spans, tick)
        for lamp in now:
            if lamp not in ahead:
                counts[lamp] += 1
        ahead = now
    return tuple(counts)


def day_words(lamps, day, today, store, tanks, turn):
    """Every word of a fault that a day has; span faults hide those that speak of spans."""
    boat, most, price, length, wanted = day
    taken, bought, poured, spans = turn
    filled = [level + much for level, much in zip(tanks, poured)]
    words = []
    if taken < 0 or taken > boat:
        words.append("boat")
    if bought < 0 or bought > most:
        words.append("market")
    if any(much < 0 for much in poured) or sum(poured) > store + taken + bought:
        words.append("pour")
    if any(level > lamp[0] for level, lamp in zip(filled, lamps)):
        words.append("tank")
    if span_fault(length, len(lamps), spans):
        return words + ["span"]
    if any(today in lamps[lamp][2] for lamp, start, end in spans):
        words.append("away")
    for lamp in range(len(lamps)):
        if sum(lamp in burning(spans, tick) for tick in range(length)) > filled[lamp]:
            words.append("oil")
    if dark_fault(length, wanted, spans):
        words.append("dark")
    return words


def fault(book, rota):
    keep, store, lamps, days = book
    tanks = [lamp[1] for lamp in lamps]
    for today, (day, turn) in enumerate(zip(days, rota)):
        words = day_words(lamps, day, today, store, tanks, turn)
        if words:
            return (today, min(words, key=WORDS.index))
        taken, bought, poured, spans = turn
        store = min(keep, store + taken + bought - sum(poured))
        for tick in range(day[3]):
            for lamp in burning(spans, tick):
                tanks[lamp] -= 1
        tanks = [level + much for level, much in zip(tanks, poured)]
    return None
