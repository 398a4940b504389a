"""Texts: books written and read, and the answers of books."""

from lamprota.books import made_book
from lamprota.cheapest import cheapest
from lamprota.errors import BadRow
from lamprota.telling import told

# As many as 10**30 has.
MOST_FIGURES = 31


def numbers_row(word, numbers):
    """A row of a word and numbers."""
    return " ".join([word] + [str(number) for number in numbers])


def lamp_row(lamp):
    """The row of a lamp."""
    tank, oil, away = lamp
    row = numbers_row("lamp", (tank, oil))
    return row + " " + numbers_row("away", away) if away else row


def book_text(book):
    """The text of a book."""
    store, oil, lamps, days = book
    rows = [numbers_row("store", (store, oil))]
    rows.extend([lamp_row(lamp) for lamp in lamps])
    rows.extend([numbers_row("day", day) for day in days])
    return "\n".join(rows)


def is_number(word):
    """True where a word writes a number."""
    return word.isdigit() and len(word) <= MOST_FIGURES and (word == "0" or not word.startswith("0"))


def numbers_of(words):
    """The tuple of the numbers that words write, or None where one of them writes none."""
    if not all([is_number(word) for word in words]):
        return None
    return tuple([int(word) for word in words])


def read_numbers(row, word, many):
    """The numbers of a row of this word and so many of them, or None where it is no such row."""
    words = row.split(" ")
    if words[0] != word or len(words) != many + 1:
        return None
    return numbers_of(words[1:])


def read_lamp(row):
    """The lamp of a row, or None where it is no lamp's."""
    front, parting, days = row.partition(" away ")
    numbers = read_numbers(front, "lamp", 2)
    away = numbers_of(days.split(" ")) if parting else ()
    if numbers is None or away is None:
        return None
    return numbers + (away,)


def read_book(text):
    """The book that a text writes; refuses with BadRow, then BadBook."""
    rows = text.split("\n")
    stored = read_numbers(rows[0], "store", 2)
    if stored is None:
        raise BadRow(1)
    lamps = []
    days = []
    for place, row in enumerate(rows[1:]):
        lamp = read_lamp(row)
        day = read_numbers(row, "day", 5)
        if day is not None:
            days.append(day)
        elif lamp is not None and not days:
            lamps.append(lamp)
        else:
            raise BadRow(place + 2)
    if not lamps or not days:
        raise BadRow(len(rows) + 1)
    return made_book(stored[0], stored[1], lamps, days)


def turn_rows(day, turn):
    """The rows of a day of a rota."""
    taken, bought, poured, spans = turn
    row = f"day {day} take {taken} buy {bought} " + numbers_row("pour", poured)
    return [row] + [numbers_row("burn", span) for span in spans]


def answered(text):
    """The answer of the book that a text writes; refuses with BadRow, then BadBook."""
    book = read_book(text)
    found = cheapest(book)
    if found is None:
        return "none\n" + numbers_row("side", told(book)[1])
    least, rota, flow, worths = found
    rows = [f"kept {least}"]
    for day, turn in enumerate(rota):
        rows.extend(turn_rows(day, turn))
    return "\n".join(rows)
