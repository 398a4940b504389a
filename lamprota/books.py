"""Books: what a lighthouse has at first, and what its days bring and ask for."""

from lamprota.errors import BadBook


def refuse_unless(holds, words):
    """Refuses with BadBook and these words where something does not hold."""
    if not holds:
        raise BadBook(words)


def is_measure(number):
    """True where a number may stand for an amount of oil in a book."""
    return 0 <= number <= 10 ** 30


def rises(things):
    """True where each of a tuple or list is above the one ahead of it."""
    return all([one < other for one, other in zip(things, things[1:])])


def replaced(things, place, thing):
    """A tuple with another thing at one place."""
    return things[:place] + (thing,) + things[place + 1:]


def made_lamp(lamp, many_days):
    """A lamp of a book with so many days; refuses with BadBook."""
    refuse_unless(len(lamp) == 3, "a lamp has a tank, its oil and the days away")
    tank, oil, away = lamp
    refuse_unless(is_measure(tank), "a tank holds from 0 to 10**30 measures")
    refuse_unless(0 <= oil <= tank, "a lamp has from 0 measures to what its tank holds")
    refuse_unless(all([0 <= day < many_days for day in away]), "a lamp is away on days of the book alone")
    refuse_unless(rises(away), "the days away rise")
    return (tank, oil, tuple(away))


def made_day(day, many_lamps):
    """A day of a book with so many lamps; refuses with BadBook."""
    refuse_unless(len(day) == 5, "a day has a boat, a most, a price, a length and the wanted lamps")
    boat, most, price, length, wanted = day
    refuse_unless(is_measure(boat), "a boat brings from 0 to 10**30 measures")
    refuse_unless(is_measure(most), "from 0 to 10**30 measures can be bought")
    refuse_unless(0 <= price <= 10 ** 15, "a price is from 0 to 10**15")
    refuse_unless(1 <= length <= 10 ** 15, "a night has from 1 to 10**15 ticks")
    refuse_unless(0 <= wanted <= many_lamps, "from 0 to all lamps are wanted")
    return (boat, most, price, length, wanted)


def made_book(store, oil, lamps, days):
    """A book; refuses with BadBook what can't stand in one."""
    refuse_unless(is_measure(store), "a store keeps from 0 to 10**30 measures")
    refuse_unless(is_measure(oil), "a store has from 0 to 10**30 measures at first")
    refuse_unless(1 <= len(lamps) <= 8, "a book has 1 to 8 lamps")
    refuse_unless(1 <= len(days) <= 16, "a book has 1 to 16 days")
    book_lamps = tuple([made_lamp(lamp, len(days)) for lamp in lamps])
    book_days = tuple([made_day(day, len(lamps)) for day in days])
    return (store, oil, book_lamps, book_days)


def night_need(book, day):
    """How many measures the night behind a day burns."""
    boat, most, price, length, wanted = book[3][day]
    return wanted * length


def need(book):
    """How many measures all nights burn together."""
    return sum([night_need(book, day) for day in range(len(book[3]))])


def can_burn(book, lamp, day):
    """True where the lamp is not away in the night behind the day."""
    tank, oil, away = book[2][lamp]
    return day not in away


def lamp_cut_to(lamp, many):
    """The lamp without its days away behind the first ones."""
    tank, oil, away = lamp
    return (tank, oil, tuple([day for day in away if day < many]))


def cut_to(book, many):
    """The book of the first days alone."""
    store, oil, lamps, days = book
    return (store, oil, tuple([lamp_cut_to(lamp, many) for lamp in lamps]), days[:many])


def left_out(book, lamp):
    """The book with a lamp that is away in all nights."""
    store, oil, lamps, days = book
    tank, in_tank, away = lamps[lamp]
    idle = (tank, in_tank, tuple(range(len(days))))
    return (store, oil, replaced(lamps, lamp, idle), days)


def boat_of(book, day):
    """How much the boat of a day brings at most."""
    boat, most, price, length, wanted = book[3][day]
    return boat


def with_day_part(book, day, part, number):
    """The book with a day that has another number at one of its parts."""
    store, oil, lamps, days = book
    return (store, oil, lamps, replaced(days, day, replaced(days[day], part, number)))


def with_boat(book, day, boat):
    """The book with a day whose boat brings so much."""
    return with_day_part(book, day, 0, boat)


def with_wanted(book, day, wanted):
    """The book with a day in whose night so many lamps must burn."""
    return with_day_part(book, day, 4, wanted)


def boat_moved(book, day, other):
    """The book with the boat of a day moved to another day, beside that day's boat."""
    # What the other day has is asked behind the emptying, so that a boat moved to its own day is not there twice.
    emptied = with_boat(book, day, 0)
    return with_boat(emptied, other, boat_of(emptied, other) + boat_of(book, day))


def with_store(book, store):
    """The book with a store that keeps so much over a night."""
    return (store,) + book[1:]


def with_oil(book, oil):
    """The book with so much oil in the store at first."""
    return replaced(book, 1, oil)
