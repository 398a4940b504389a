"""Books by chance, rotas that keep them, their webs and their least cost, found slow and plain."""

import itertools

from tests import naive


def some_away(chance, days, often):
    return tuple(day for day in range(days) if chance.random() < often)


def some_book(chance, most_lamps, most_days, much, free):
    """A small book of numbers up to `much`, in which boats and what is there at first are at most `free` each."""
    count, many = chance.randint(1, most_lamps), chance.randint(1, most_days)
    lamps = []
    for lamp in range(count):
        tank = chance.randint(0, much)
        lamps.append((tank, chance.randint(0, min(free, tank)), some_away(chance, many, 0.15)))
    days = tuple((chance.randint(0, free), chance.randint(0, much), chance.randint(0, 4), chance.randint(1, 2),
                  chance.randint(0, count)) for day in range(many))
    return (chance.randint(0, much), chance.randint(0, free), tuple(lamps), days)


def tight_book(chance, most_lamps, most_days):
    """A small book in which oil comes seldom, so that what is kept over a night decides."""
    count, many = chance.randint(1, most_lamps), chance.randint(2, most_days)
    lamps = []
    for lamp in range(count):
        tank = chance.randint(1, 3)
        lamps.append((tank, chance.randint(0, tank), some_away(chance, many, 0.1)))
    days = tuple((chance.choice((0, 0, 3, 5)), chance.choice((0, 0, 1)), chance.randint(0, 4), chance.randint(1, 2),
                  min(count, chance.randint(0, 2))) for day in range(many))
    return (chance.randint(0, 3), chance.randint(0, 4), tuple(lamps), days)


def some_night(chance, levels, can_burn):
    """A length, a wanted, spans that light just as many lamps in each tick, and the levels behind them."""
    length, levels, spans = chance.randint(1, 4), list(levels), []
    wanted = chance.randint(0, len(levels))
    for tick in range(length):
        able = [lamp for lamp, level in enumerate(levels) if level > 0 and can_burn[lamp]]
        if len(able) < wanted:
            return None
        for lamp in chance.sample(able, wanted):
            levels[lamp] -= 1
            spans.append((lamp, tick, tick + 1))
    return length, wanted, tuple(sorted(spans)), tuple(levels)


def some_day(chance, lamps, day, store, levels):
    """A day of a book, how it goes in a rota, and what is there behind it, ahead of the spilling."""
    boat, most = chance.randint(0, 6), chance.randint(0, 6)
    taken, bought = chance.randint(0, boat), chance.randint(0, most)
    left, poured, filled = store + taken + bought, [], []
    for (tank, oil, away), level in zip(lamps, levels):
        poured.append(chance.randint(0, min(left, tank - level)))
        left -= poured[-1]
        filled.append(level + poured[-1])
    can_burn = [day not in away for tank, oil, away in lamps]
    night = None
    while night is None:
        night = some_night(chance, filled, can_burn)
    length, wanted, spans, levels = night
    return (boat, most, chance.randint(0, 9), length, wanted), (taken, bought, tuple(poured), spans), left, levels


def some_kept(chance, most_lamps=3, most_days=4):
    """A book and a rota that keeps it, which spills, pours too much and takes what it never uses now and then."""
    many = chance.randint(1, most_days)
    lamps = []
    for lamp in range(chance.randint(1, most_lamps)):
        tank = chance.randint(0, 9)
        lamps.append((tank, chance.randint(0, tank), some_away(chance, many, 0.15)))
    keep, oil = chance.randint(0, 8), chance.randint(0, 8)
    store, levels, days, rota = oil, tuple(lamp[1] for lamp in lamps), [], []
    for today in range(many):
        day, turn, left, levels = some_day(chance, lamps, today, store, levels)
        store = min(keep, left)
        days.append(day)
        rota.append(turn)
    book = (keep, oil, tuple(lamps), tuple(days))
    assert naive.fault(book, tuple(rota)) is None
    return book, tuple(rota)


def web_of(book):
    """The web of a book, by the document's words."""
    keep, oil, lamps, days = book
    n = len(lamps)
    need = sum(day[3] * day[4] for day in days)
    ties = []
    for d, (boat, most, price, length, wanted) in enumerate(days):
        s = 2 + d * (2 * n + 2)
        following = s + 2 * n + 2
        ties += [(0, s, boat, 0), (0, s, most, price), (s + 2 * n + 1, 1, wanted * length, 0)]
        if d == 0:
            ties.append((0, s, oil, 0))
        if d + 1 < len(days):
            ties.append((s, following, keep, 0))
        for i, (tank, in_tank, away) in enumerate(lamps):
            ties += [(s, s + 1 + 2 * i, need, 0), (s + 1 + 2 * i, s + 2 + 2 * i, tank, 0)]
            ties.append((s + 2 + 2 * i, s + 2 * n + 1, 0 if d in away else length, 0))
            if d == 0:
                ties.append((0, s + 1 + 2 * i, in_tank, 0))
            if d + 1 < len(days):
                ties.append((s + 2 + 2 * i, following + 1 + 2 * i, need, 0))
    return (2 + len(days) * (2 * n + 2), tuple(sorted(ties)))


def behind(book, day, store, levels, most_ticks):
    """Each (bought, store, levels) that a day and its night can leave where all of the boat is taken.

    No lamp burns more than most_ticks in the night.
    """
    keep, oil, lamps, days = book
    boat, most, price, length, wanted = days[day]
    for bought in range(most + 1):
        has = store + boat + bought
        rooms = [range(min(has, lamp[0] - level) + 1) for lamp, level in zip(lamps, levels)]
        for poured in itertools.product(*rooms):
            if sum(poured) > has:
                continue
            filled = [level + much for level, much in zip(levels, poured)]
            burns = [range(1 if day in lamp[2] else min(length, most_ticks, level) + 1)
                     for lamp, level in zip(lamps, filled)]
            for ticks in itertools.product(*burns):
                if sum(ticks) == wanted * length:
                    left = tuple(level - much for level, much in zip(filled, ticks))
                    yield bought, min(keep, has - sum(poured)), left


def least_cost(book, most_ticks=99):
    """The least cost of a rota that keeps the book, by going through all that can be held; None for none.

    No lamp burns more than most_ticks in any one night.
    """
    costs = {(book[1], tuple(lamp[1] for lamp in book[2])): 0}
    for day in range(len(book[3])):
        later = {}
        for (store, levels), so_far in costs.items():
            for bought, kept, left in behind(book, day, store, levels, most_ticks):
                total = so_far + bought * book[3][day][2]
                later[(kept, left)] = min(total, later.get((kept, left), total))
        costs = later
    return min(costs.values(), default=None)
