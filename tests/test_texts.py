import random
import unittest

from lamprota.books import made_book, need
from lamprota.errors import BadBook, BadRow, BadTicks, LampError, NoDeed, NoRest
from lamprota.telling import told
from lamprota.texts import answered, book_text, read_book
from lamprota.walk import cost, fault
from tests import naive, naive_books

MOST = 10 ** 30
NIGHT = 10 ** 15
BOOK = made_book(7, 50, [(9, 4, (0, 2)), (7, 7, ())], [(11, 12, 13, 14, 2), (21, 0, 23, 24, 0), (31, 32, 33, 4, 1)])
ROWS = ("store 7 50", "lamp 9 4 away 0 2", "lamp 7 7", "day 11 12 13 14 2", "day 21 0 23 24 0", "day 31 32 33 4 1")
TEXT = "\n".join(ROWS)
# The greatest book and the one whose text is longest.
GREAT = made_book(MOST, MOST, [(MOST, MOST, tuple(range(16)))] * 8, [(MOST, MOST, NIGHT, NIGHT, 8)] * 16)


def with_row(place, row):
    """The text with another row, the first one being 1."""
    return "\n".join(ROWS[:place - 1] + (row,) + ROWS[place:])


def with_row_ahead(place, row):
    """The text with one more row, ahead of one."""
    return "\n".join(ROWS[:place - 1] + (row,) + ROWS[place - 1:])


class Written(unittest.TestCase):
    """Point 11.1: book_text."""

    def test_several_lamps_and_days(self):
        self.assertEqual(book_text(BOOK), TEXT)

    def test_one_lamp_and_one_day(self):
        book = made_book(0, 0, [(0, 0, ())], [(0, 0, 0, 1, 0)])
        self.assertEqual(book_text(book), "store 0 0\nlamp 0 0\nday 0 0 0 1 0")
        book = made_book(1, 10, [(100, 99, (0,))], [(20, 30, 40, 50, 1)])
        self.assertEqual(book_text(book), "store 1 10\nlamp 100 99 away 0\nday 20 30 40 50 1")

    def test_days_away_of_two_figures(self):
        book = made_book(1, 2, [(3, 3, (0, 9, 10, 15))], [(0, 0, 0, 1, 0)] * 16)
        self.assertEqual(book_text(book).split("\n")[1], "lamp 3 3 away 0 9 10 15")

    def test_at_the_bounds(self):
        figures = "1" + "0" * 30
        lamp = f"lamp {figures} {figures} away 0 1 2 3 4 5 6 7 8 9 10 11 12 13 14 15"
        day = f"day {figures} {figures} 1000000000000000 1000000000000000 8"
        self.assertEqual(book_text(GREAT), "\n".join([f"store {figures} {figures}"] + [lamp] * 8 + [day] * 16))
        self.assertLess(len(book_text(GREAT)), 6000)

    def test_no_two_books_have_one_text(self):
        chance = random.Random(121)
        books = {naive_books.some_book(chance, 2, 2, 2, 2) for again in range(500)}
        self.assertEqual(len({book_text(book) for book in books}), len(books))


class Read(unittest.TestCase):
    """Points 11.1 and 11.2: read_book of a book's text."""

    def test_plain_texts(self):
        self.assertEqual(read_book(TEXT), BOOK)
        self.assertEqual(read_book("store 0 0\nlamp 0 0\nday 0 0 0 1 0"), (0, 0, ((0, 0, ()),), ((0, 0, 0, 1, 0),)))

    def test_read_back(self):
        chance = random.Random(122)
        for again in range(200):
            book = naive_books.some_book(chance, 8, 16, 99, 30)
            self.assertEqual(made_book(*book), book)
            self.assertEqual(read_book(book_text(book)), book)
        self.assertEqual(read_book(book_text(GREAT)), GREAT)

    def test_what_is_read_is_tuples_of_numbers(self):
        book = read_book(TEXT)
        self.assertEqual([type(part) for part in book], [int, int, tuple, tuple])
        for lamp in book[2]:
            self.assertEqual([type(part) for part in lamp], [int, int, tuple])
        for day in book[3]:
            self.assertEqual([type(part) for part in day], [int] * 5)

    def test_each_text_of_a_book_is_written_so(self):
        # Whatever is read is written as it was.
        chance = random.Random(123)
        done = 0
        for again in range(4000):
            text = list(TEXT)
            for change in range(chance.randint(1, 2)):
                place = chance.randrange(len(text))
                text[place] = chance.choice(("", "0", "1", "9", " ", "\n", "\t", "d", text[place] * 2))
            text = "".join(text)
            try:
                book = read_book(text)
            except (BadRow, BadBook):
                continue
            self.assertEqual(book_text(book), text)
            done += 1
        self.assertGreater(done, 300)


class Refused(unittest.TestCase):
    """Point 11.2."""

    def assertBadRow(self, text, row):
        for asked in (read_book, answered):
            with self.assertRaises(BadRow, msg=text) as caught:
                asked(text)
            self.assertEqual(caught.exception.row, row, text)

    def assertBadBook(self, text):
        for asked in (read_book, answered):
            with self.assertRaises(BadBook, msg=text):
                asked(text)

    def test_empty_texts_and_rows(self):
        self.assertBadRow("", 1)
        self.assertBadRow("\n", 1)
        self.assertBadRow(" ", 1)
        self.assertBadRow("\t", 1)
        self.assertBadRow("\n" + TEXT, 1)
        self.assertBadRow(TEXT + "\n", 7)
        self.assertBadRow(TEXT + "\n\n", 7)
        for place in range(1, 7):
            self.assertBadRow(with_row_ahead(place, ""), place)
            self.assertBadRow(with_row(place, ""), place)

    def test_a_blank_too_many(self):
        for place, row in enumerate(ROWS):
            self.assertBadRow(with_row(place + 1, " " + row), place + 1)
            self.assertBadRow(with_row(place + 1, row + " "), place + 1)
            for blank in range(row.count(" ")):
                words = row.split(" ")
                words[blank] += " "
                self.assertBadRow(with_row(place + 1, " ".join(words)), place + 1)

    def test_a_tab_parts_no_words(self):
        for place, row in enumerate(ROWS):
            for signs in ("\t" + row, row + "\t", row.replace(" ", "\t"), row.replace(" ", "\t", 1),
                          row.replace(" ", " \t", 1), row.replace(" ", "\t ", 1), row[:-1] + "\t" + row[-1]):
                self.assertBadRow(with_row(place + 1, signs), place + 1)

    def test_a_word_too_many_or_too_few(self):
        for place, row in enumerate(ROWS):
            words = row.split(" ")
            for word in range(len(words) if place != 1 else 3):
                self.assertBadRow(with_row(place + 1, " ".join(words[:word] + words[word + 1:])), place + 1)
            for more in (" x", " away", " 0 x", " away x", " away 0 away", " away 0 away 1", " away away 0", " ~"):
                self.assertBadRow(with_row(place + 1, row + more), place + 1)
            if place not in (1, 2):
                self.assertBadRow(with_row(place + 1, row + " away 1"), place + 1)
                self.assertBadRow(with_row(place + 1, row + " 0"), place + 1)
        self.assertBadRow(with_row(3, "lamp 7 7 0"), 3)
        self.assertBadRow(with_row(3, "lamp 7 7 7 away 0"), 3)
        self.assertBadRow(with_row(3, "lamp 7 away 0"), 3)
        self.assertBadRow(with_row(3, "lamp away 0"), 3)

    def test_away_without_days(self):
        for row in ("lamp 7 7 away", "lamp 7 7 away ", "lamp 7 7  away 0", "lamp 7 7 away  0", "lamp 7 7 Away 0",
                    "lamp 7 7 away0", "lamp 7 7away 0", "lamp 7 7 away 0 ", "lamp 7 7 away 0  1"):
            self.assertBadRow(with_row(3, row), 3)

    def test_words_that_write_no_number(self):
        for word in ("00", "01", "007", "-1", "+1", "-0", "1.", "1.0", "1e3", "1_0", "x", "0x1", "", "''", "1" * 32,
                     "0" * 31, "1" + "0" * 31, "1,", "one"):
            self.assertBadRow(with_row(1, f"store {word} 1"), 1)
            self.assertBadRow(with_row(1, f"store 1 {word}"), 1)
            self.assertBadRow(with_row(2, f"lamp {word} 0"), 2)
            self.assertBadRow(with_row(2, f"lamp 1 {word} away 1"), 2)
            self.assertBadRow(with_row(2, f"lamp 1 0 away {word}"), 2)
            self.assertBadRow(with_row(3, f"lamp 1 0 away 0 {word} 2"), 3)
            for part in range(5):
                words = ["1"] * 5
                words[part] = word
                self.assertBadRow(with_row(6, " ".join(["day"] + words)), 6)

    def test_other_first_words(self):
        for place, row in enumerate(ROWS):
            for word in ("Store", "LAMP", "days", "lamps", "boat", "", "away", "0", "lam", "none", "kept", "burn"):
                self.assertBadRow(with_row(place + 1, " ".join([word] + row.split(" ")[1:])), place + 1)
            # A row with the numbers of another form.
            for word in ("store", "lamp", "day"):
                numbers = " 1" * (5 if word != "day" else 2)
                self.assertBadRow(with_row(place + 1, word + numbers), place + 1)

    def test_rows_out_of_their_place(self):
        self.assertBadRow(TEXT[len("store 7 50\n"):], 1)
        self.assertBadRow(with_row(1, "lamp 7 7"), 1)
        self.assertBadRow(with_row(1, "day 1 1 1 1 1"), 1)
        for place in range(2, 8):
            self.assertBadRow(with_row_ahead(place, "store 7 50"), place)
        for place in range(5, 8):
            self.assertBadRow(with_row_ahead(place, "lamp 7 7"), place)
            self.assertBadRow(with_row_ahead(place, "lamp 7 7 away 1"), place)
        self.assertBadRow("store 7 50\nday 1 1 1 1 1\nlamp 7 7", 3)
        self.assertBadRow("lamp 7 7\nstore 7 50\nday 1 1 1 1 1", 1)

    def test_lamps_or_days_lacking(self):
        self.assertBadRow("store 7 50", 2)
        self.assertBadRow("store 7 50\nlamp 7 7", 3)
        self.assertBadRow("store 7 50\nlamp 7 7\nlamp 7 7 away 0", 4)
        self.assertBadRow("store 7 50\nday 1 1 1 1 0", 3)
        self.assertBadRow("store 7 50\nday 1 1 1 1 0\nday 1 1 1 1 0", 4)
        self.assertBadRow("store 7 50\n" + "\n".join(["lamp 7 7"] * 20), 22)

    def test_the_first_bad_row_is_told(self):
        self.assertBadRow("store 7 50\nlamp 7 7\nday 1 1 1 1 1 \nlamp 7 7\n", 3)
        self.assertBadRow("store 7 50\nlamp 7 7\nday 1 1 1 1 1\nlamp 7 7\nlamp", 4)
        self.assertBadRow("store 7 50\n\n\n", 2)
        self.assertBadRow("store 7 50\nday 1 1 1 1 x", 2)
        self.assertBadRow("x\nstore 7 50", 1)

    def test_texts_that_write_no_book(self):
        self.assertBadBook(with_row(3, "lamp 7 8"))
        self.assertBadBook(with_row(3, "lamp 0 1"))
        for days in ("1 0", "0 0", "0 2 1", "1 1 2", "3", "0 3", "4", "0 1 2 3", "9" * 31, "0 1 2 2"):
            self.assertBadBook(with_row(3, f"lamp 7 7 away {days}"))
        for figures in ("1" + "0" * 29 + "1", "9" * 31, "2" + "0" * 30):
            self.assertBadBook(with_row(1, f"store {figures} 1"))
            self.assertBadBook(with_row(1, f"store 1 {figures}"))
            self.assertBadBook(with_row(2, f"lamp {figures} 1"))
            self.assertBadBook(with_row(2, f"lamp {figures} {figures}"))
            for part in range(5):
                numbers = ["1"] * 5
                numbers[part] = figures
                self.assertBadBook(with_row(5, " ".join(["day"] + numbers)))
        self.assertBadBook(with_row(5, "day 1 1 1000000000000001 1 1"))
        self.assertBadBook(with_row(5, "day 1 1 1 1000000000000001 1"))
        self.assertBadBook(with_row(5, "day 1 1 1 0 1"))
        self.assertBadBook(with_row(5, "day 1 1 1 1 3"))

    def test_too_many_lamps_or_days(self):
        for lamps, days in ((9, 1), (1, 17), (9, 17), (20, 60)):
            self.assertBadBook("\n".join(["store 1 1"] + ["lamp 1 1"] * lamps + ["day 1 1 1 1 1"] * days))
        read_book("\n".join(["store 1 1"] + ["lamp 1 1"] * 8 + ["day 1 1 1 1 1"] * 16))

    def test_a_bad_row_goes_ahead_of_a_bad_book(self):
        self.assertBadRow("store 7 50\nlamp 7 8\nday 1 1 1 1 1\n", 4)
        self.assertBadRow("store 7 50\nlamp 7 8 away 3 2\nday 1 1 1 0 9\nday 1 1 1 1", 4)
        self.assertBadRow("store 7 50\nlamp 7 8", 3)
        self.assertBadRow("store " + "9" * 31 + " 1\nday 1 1 1 1 1", 3)
        self.assertBadRow("\n".join(["store 1 1"] + ["lamp 1 1"] * 9 + ["day 1 1 1 1 1"] * 17 + ["lamp 1 1"]), 28)

    def test_long_texts(self):
        self.assertBadRow("\n" * 6000, 1)
        self.assertBadRow("store 1 1" + "\n" * 5900, 2)
        self.assertBadRow(" " * 6000, 1)
        self.assertBadRow("store 1 " + "1" * 5900, 1)
        self.assertBadRow("store 1 1\n" + "\n".join(["lamp 1 1"] * 600), 602)
        self.assertBadBook("store 1 1\n" + "\n".join(["lamp 1 1"] * 600) + "\nday 1 1 1 1 1")
        self.assertBadBook("store 1 1\nlamp 1 1 away" + " 0" * 2900 + "\nday 1 1 1 1 1")

    def test_each_sign_in_each_place(self):
        # A sign that writes nothing makes its row a bad one, wherever it is put.
        text = "store 7 50\nlamp 7 7 away 0\nday 1 1 1 1 1"
        for sign in [chr(number) for number in range(32, 127) if chr(number) not in "%0123456789"] + ["\t"]:
            for place in range(len(text) + 1):
                with self.assertRaises(BadRow, msg=(sign, place)) as caught:
                    read_book(text[:place] + sign + text[place:])
                self.assertEqual(caught.exception.row, text[:place].count("\n") + 1)

    def test_refusals_are_taken_by_their_class_and_those_above_alone(self):
        kinds = (BadBook, BadRow, BadTicks, NoDeed, NoRest)
        for kind, text in ((BadRow, ""), (BadBook, with_row(3, "lamp 7 8"))):
            for asked in (read_book, answered):
                for taker in (LampError, ValueError, kind):
                    self.assertRaises(taker, asked, text)
                try:
                    asked(text)
                except LampError as refusal:
                    self.assertEqual([one for one in kinds if isinstance(refusal, one)], [kind])


def read_rota(rows):
    """The rota that the rows of an answer tell, word by word."""
    rota = []
    for row in rows:
        words = row.split(" ")
        if words[0] == "day":
            assert [words[1], words[2], words[4], words[6]] == [str(len(rota)), "take", "buy", "pour"], row
            rota.append((int(words[3]), int(words[5]), tuple(int(word) for word in words[7:]), ()))
        else:
            assert words[0] == "burn" and len(words) == 4, row
            taken, bought, poured, spans = rota[-1]
            rota[-1] = (taken, bought, poured, spans + (tuple(int(word) for word in words[1:]),))
    return tuple(rota)


def written_rota(rota):
    rows = []
    for day, (taken, bought, poured, spans) in enumerate(rota):
        rows.append("day " + str(day) + " take " + str(taken) + " buy " + str(bought) + " pour")
        for much in poured:
            rows[-1] += " " + str(much)
        for lamp, start, end in spans:
            rows.append("burn " + str(lamp) + " " + str(start) + " " + str(end))
    return rows


class Answered(unittest.TestCase):
    """Point 11.3."""

    def assertAnswer(self, book):
        """The answer is right by its own papers; gives back the cost, or None."""
        rows = answered(book_text(book)).split("\n")
        word, paper = told(book)
        if rows[0] == "none":
            self.assertEqual(rows[1:], ["side " + " ".join(str(node) for node in paper)])
            self.assertEqual(word, "none")
            return None
        rota = read_rota(rows[1:])
        self.assertEqual(written_rota(rota), rows[1:])
        self.assertIsNone(fault(book, rota))
        self.assertEqual(rows[0], "kept " + str(cost(book, rota)))
        return cost(book, rota)

    def test_plain_answers(self):
        self.assertEqual(answered("store 0 0\nlamp 6 0\nday 4 9 7 6 1"),
                         "kept 14\nday 0 take 4 buy 2 pour 6\nburn 0 0 6")
        self.assertEqual(answered("store 0 0\nlamp 6 0\nday 4 1 7 6 1"), "none\nside 0")
        self.assertEqual(answered("store 0 0\nlamp 5 0\nday 4 9 7 6 1"), "none\nside 0 2 3")
        self.assertEqual(answered("store 0 0\nlamp 0 0\nday 0 0 0 1 0"), "kept 0\nday 0 take 0 buy 0 pour 0")

    def test_several_lamps_and_days(self):
        text = "store 0 0\nlamp 3 3\nlamp 4 4\nday 0 0 0 3 2\nday 0 0 0 1 0\nday 0 0 0 1 1"
        self.assertEqual(answered(text), "kept 0\nday 0 take 0 buy 0 pour 0 0\nburn 0 0 3\nburn 1 0 3\n"
                         "day 1 take 0 buy 0 pour 0 0\nday 2 take 0 buy 0 pour 0 0\nburn 1 0 1")

    def test_what_is_bought_is_bought_where_it_is_cheap(self):
        days = "day 0 9 5 2 1\nday 0 9 3 2 1\nday 0 9 4 2 1"
        for keep, tank, least in ((9, 9, 22), (0, 2, 24), (1, 2, 23), (0, 3, 23)):
            self.assertEqual(answered(f"store {keep} 0\nlamp {tank} 0\n{days}").split("\n")[0], f"kept {least}")

    def test_small_books_gone_through(self):
        chance = random.Random(124)
        costs = []
        for again in range(300):
            book = naive_books.some_book(chance, 2, 3, 4, 1)
            costs.append(self.assertAnswer(book))
            self.assertEqual(costs[-1], naive_books.least_cost(book), book)
        self.assertTrue({None, 0, 1, 2, 3, 4} <= set(costs))

    def test_rotas_walked_tick_by_tick(self):
        chance = random.Random(125)
        for again in range(100):
            book, rota = naive_books.some_kept(chance)
            least = self.assertAnswer(book)
            self.assertLessEqual(least, cost(book, rota))
            self.assertIsNone(naive.fault(book, read_rota(answered(book_text(book)).split("\n")[1:])))

    def test_at_the_bounds(self):
        lamps = [(MOST, 0, ())] * 8
        book = made_book(MOST, 0, lamps, [(0, MOST, NIGHT, NIGHT, 8)] * 16)
        self.assertEqual(self.assertAnswer(book), need(book) * NIGHT)
        self.assertIsNone(self.assertAnswer(GREAT))


class Handed(unittest.TestCase):
    """Point 0.3."""

    def test_what_is_handed_in_stays_and_is_told_alike_again(self):
        chance = random.Random(126)
        for again in range(40):
            book = naive_books.some_book(chance, 3, 3, 6, 6)
            before = repr(book)
            text = book_text(book)
            self.assertEqual(book_text(book), text)
            self.assertEqual(repr(book), before)
            self.assertEqual(read_book(text), read_book(text))
            self.assertEqual(answered(text), answered(text))
