"""A watch: a book whose days go by, and deeds that can be taken back."""

from lamprota.books import is_measure, left_out, with_boat, with_wanted
from lamprota.errors import NoDeed, NoRest
from lamprota.telling import told
from lamprota.walk import day_fault, held_at_first, held_behind


def deny_unless(holds, words):
    """Refuses with NoDeed and these words where something does not hold."""
    if not holds:
        raise NoDeed(words)


def lamp_behind(lamp, level):
    """A lamp behind the first night, with this in its tank, and its days away counted anew."""
    tank, oil, away = lamp
    return (tank, level, tuple([day - 1 for day in away if day > 0]))


def book_behind(book, turn):
    """The book of the days behind the first one, where that goes as the turn tells."""
    store, oil, lamps, days = book
    kept, levels = held_behind(book, held_at_first(book), turn)
    return (store, kept, tuple([lamp_behind(lamp, level) for lamp, level in zip(lamps, levels)]), days[1:])


class Watch:
    """A book, the day that is today, and the deeds that were done.

    `rests` holds the rest at first and the one behind each deed that was not taken back; behind the last night it is
    a book without days.
    """

    def __init__(self, book):
        self.rests = [book]

    def today(self):
        """The day of the watch's book that is today."""
        return len(self.rests[0][3]) - len(self.rests[-1][3])

    def rest(self):
        """The book of the days from today on; refuses with NoRest."""
        if len(self.rests[-1][3]) == 0:
            raise NoRest("behind the last night there is no rest")
        return self.rests[-1]

    def told(self):
        """A rota of the rest, or the paper that there is none; refuses with NoRest."""
        return told(self.rest())

    def rest_for_deed(self):
        """The rest, of which a deed makes another; refuses with NoDeed."""
        deny_unless(len(self.rests[-1][3]) > 0, "behind the last night there are no deeds but to go back")
        return self.rests[-1]

    def place_of(self, day):
        """Which day of the rest a day of the watch's book is; refuses with NoDeed."""
        deny_unless(self.today() <= day < len(self.rests[0][3]), "there is no such day from today on")
        return day - self.today()

    def night(self, day):
        """Today and its night go by as the day's tuple tells; refuses with NoDeed."""
        book = self.rest_for_deed()
        word = day_fault(book, 0, held_at_first(book), day)
        deny_unless(word is None, f"the day has a fault: {word}")
        self.rests.append(book_behind(book, day))

    def fails(self, lamp):
        """A lamp is away from tonight on; refuses with NoDeed."""
        book = self.rest_for_deed()
        deny_unless(0 <= lamp < len(book[2]), "there is no such lamp")
        self.rests.append(left_out(book, lamp))

    def boat(self, day, much):
        """The boat of a day brings so much instead; refuses with NoDeed."""
        place = self.place_of(day)
        deny_unless(is_measure(much), "a boat brings from 0 to 10**30 measures")
        self.rests.append(with_boat(self.rests[-1], place, much))

    def wants(self, day, wanted):
        """So many lamps must burn in a night instead; refuses with NoDeed."""
        place = self.place_of(day)
        deny_unless(0 <= wanted <= len(self.rests[-1][2]), "from 0 to all lamps are wanted")
        self.rests.append(with_wanted(self.rests[-1], place, wanted))

    def back(self):
        """The last deed that was not yet taken back is; refuses with NoDeed."""
        deny_unless(self.left() > 0, "no deed is left to take back")
        self.rests.pop()

    def left(self):
        """How many deeds can be taken back."""
        return len(self.rests) - 1
