import random
import unittest

from lamprota.books import made_book, need
from lamprota.even import even_web, most_even
from lamprota.telling import told
from lamprota.walk import fault
from lamprota.webs import is_side
from tests import naive, naive_books, naive_webs

MOST = 10 ** 30
NIGHT = 10 ** 15


def naive_even_web(book, ticks):
    """The web with lesser ties from flames to nights, by the document's words."""
    many, ties = naive_books.web_of(book)
    n = len(book[2])
    lesser = []
    for tail, head, bound, price in ties:
        place = (tail - 2) % (2 * n + 2)
        is_flame = tail > 1 and place in [2 + 2 * lamp for lamp in range(n)]
        if is_flame and head == tail - place + 2 * n + 1:
            bound = min(bound, ticks)
        lesser.append((tail, head, bound, price))
    return (many, tuple(sorted(lesser)))


def most_ticks(book, rota):
    """How many ticks a lamp burns in one night at most."""
    return max(sum(end - start for burning, start, end in spans if burning == lamp)
               for taken, bought, poured, spans in rota for lamp in range(len(book[2])))


class EvenWeb(unittest.TestCase):
    """Point 9.1: even_web."""

    def test_tie_by_tie(self):
        book = made_book(7, 5, [(6, 2, ()), (4, 0, (1,))], [(4, 3, 7, 9, 2), (2, 5, 11, 3, 1)])
        for ticks, first, second in ((0, 0, 0), (1, 1, 1), (2, 2, 2), (3, 3, 3), (4, 4, 3), (8, 8, 3), (9, 9, 3),
                                     (10, 9, 3), (10 ** 40, 9, 3)):
            self.assertEqual(even_web(book, ticks), (14, (
                (0, 2, 3, 7), (0, 2, 4, 0), (0, 2, 5, 0), (0, 3, 2, 0), (0, 5, 0, 0), (0, 8, 2, 0), (0, 8, 5, 11),
                (2, 3, 21, 0), (2, 5, 21, 0), (2, 8, 7, 0), (3, 4, 6, 0), (4, 7, first, 0), (4, 9, 21, 0),
                (5, 6, 4, 0), (6, 7, first, 0), (6, 11, 21, 0), (7, 1, 18, 0),
                (8, 9, 21, 0), (8, 11, 21, 0), (9, 10, 6, 0), (10, 13, second, 0), (11, 12, 4, 0), (12, 13, 0, 0),
                (13, 1, 3, 0))))

    def test_by_the_documents_words(self):
        chance = random.Random(101)
        for again in range(100):
            book = naive_books.some_book(chance, 4, 4, 9, 9)
            for ticks in (0, 1, 2, 3, MOST):
                web = even_web(book, ticks)
                self.assertEqual(web, naive_even_web(book, ticks))
                self.assertEqual(list(web[1]), sorted(web[1]))
            self.assertEqual(even_web(book, 2), naive_books.web_of(book))

    def test_the_greatest_book(self):
        book = made_book(MOST, MOST, [(MOST, MOST, (3,))] * 8, [(MOST, MOST, NIGHT, NIGHT, 8)] * 16)
        for ticks in (0, NIGHT - 1, NIGHT, NIGHT + 1):
            self.assertEqual(even_web(book, ticks), naive_even_web(book, ticks))


class MostEven(unittest.TestCase):
    """Point 9.1: most_even."""

    def ticks(self, book):
        """What is told is right by its own papers; gives back the ticks."""
        answer = most_even(book)
        if answer is None:
            self.assertEqual(told(book)[0], "none", book)
            return None
        self.assertTrue(type(answer) is tuple and len(answer) == 3)
        ticks, rota, side = answer
        self.assertIs(type(ticks), int)
        self.assertIsNone(fault(book, rota), book)
        self.assertLessEqual(most_ticks(book, rota), ticks)
        if ticks == 0:
            self.assertIsNone(side)
        else:
            web = naive_even_web(book, ticks - 1)
            self.assertIs(is_side(web, 0, 1, side), True)
            self.assertLess(naive_webs.worth(web, side), need(book))
        return ticks

    def test_a_plain_night_is_shared(self):
        for count, length, wanted, ticks in ((1, 7, 1, 7), (2, 7, 1, 4), (3, 7, 1, 3), (7, 7, 1, 1), (8, 7, 1, 1),
                                             (2, 7, 2, 7), (3, 7, 2, 5), (8, 7, 3, 3), (8, 8, 4, 4), (8, 1, 1, 1)):
            book = made_book(0, 99, [(9, 0, ())] * count, [(0, 0, 0, length, wanted)])
            self.assertEqual(self.ticks(book), ticks)

    def test_the_plain_answer(self):
        book = made_book(0, 0, [(4, 0, ())], [(4, 0, 0, 4, 1)])
        self.assertEqual(most_even(book), (4, ((4, 0, (4,), ((0, 0, 4),)),), (0, 2, 3, 4)))

    def test_the_longest_night_need_not_decide(self):
        lamps = [(9, 0, ())] * 3
        self.assertEqual(self.ticks(made_book(9, 0, lamps, [(99, 0, 0, 9, 1), (99, 0, 0, 4, 3)])), 4)
        self.assertEqual(self.ticks(made_book(9, 0, lamps, [(99, 0, 0, 9, 1), (99, 0, 0, 3, 3)])), 3)
        self.assertEqual(self.ticks(made_book(9, 0, lamps, [(99, 0, 0, 9, 2), (99, 0, 0, 4, 3)])), 6)

    def test_what_the_lamps_have_decides(self):
        days = [(0, 0, 0, 6, 1)]
        for oils, ticks in (((3, 3), 3), ((2, 4), 4), ((5, 1), 5), ((6, 0), 6), ((6, 6), 3), ((2, 3), None)):
            self.assertEqual(self.ticks(made_book(0, 0, [(9, oil, ()) for oil in oils], days)), ticks)

    def test_days_away_decide(self):
        days = [(12, 0, 0, 6, 1), (12, 0, 0, 4, 1)]
        for away, other, ticks in (((), (), 3), ((0,), (), 6), ((1,), (), 4), ((0,), (1,), 6), ((0,), (0,), None)):
            self.assertEqual(self.ticks(made_book(0, 0, [(9, 0, away), (9, 0, other)], days)), ticks)

    def test_no_rota(self):
        for book in (made_book(0, 0, [(9, 0, ())], [(5, 0, 0, 6, 1)]), made_book(9, 9, [(5, 0, ())], [(9, 0, 0, 6, 1)]),
                     made_book(9, 9, [(9, 0, (0,))], [(9, 0, 0, 6, 1)])):
            self.assertIsNone(most_even(book))

    def test_nothing_is_wanted(self):
        book = made_book(0, 0, [(0, 0, ())], [(0, 0, 0, 1, 0)])
        self.assertEqual(most_even(book), (0, ((0, 0, (0,), ()),), None))
        self.assertEqual(self.ticks(made_book(9, 9, [(9, 9, (1,))] * 8, [(9, 9, 9, NIGHT, 0)] * 16)), 0)

    def test_each_number_of_ticks_tried(self):
        chance = random.Random(102)
        told_ticks = []
        for again in range(200):
            store, oil, lamps, days = naive_books.tight_book(chance, 3, 3)
            longer = tuple((boat, most, price, chance.randint(1, 4), min(wanted, 1))
                           for boat, most, price, length, wanted in days)
            book = (store, oil, lamps, longer)
            tried = [ticks for ticks in range(5) if naive_books.least_cost(book, ticks) is not None]
            told_ticks.append(self.ticks(book))
            self.assertEqual(told_ticks[-1], min(tried, default=None), book)
        self.assertEqual(set(told_ticks), {None, 0, 1, 2, 3})

    def test_no_more_than_in_a_rota_that_keeps_the_book(self):
        chance = random.Random(103)
        for again in range(100):
            book, rota = naive_books.some_kept(chance, 4, 5)
            ticks = self.ticks(book)
            self.assertLessEqual(ticks, most_ticks(book, rota))
            self.assertIsNone(naive.fault(book, most_even(book)[1]))

    def test_nights_of_many_ticks(self):
        lamps = [(MOST, MOST, ())] * 8
        for wanted, ticks in ((1, NIGHT // 8), (3, 3 * NIGHT // 8), (7, 7 * NIGHT // 8), (8, NIGHT)):
            self.assertEqual(self.ticks(made_book(MOST, MOST, lamps, [(0, 0, 0, NIGHT, wanted)] * 16)), ticks)
        lamps = [(MOST, MOST, ())] * 7
        self.assertEqual(self.ticks(made_book(MOST, MOST, lamps, [(0, 0, 0, NIGHT, 1)] * 16)), NIGHT // 7 + 1)
        lamps = [(MOST, 0, ())] * 3 + [(1, 0, ())] * 5
        self.assertEqual(self.ticks(made_book(MOST, MOST, lamps, [(0, 0, 0, NIGHT, 1)])), (NIGHT - 5 + 2) // 3)

    def test_great_books_by_chance(self):
        chance = random.Random(104)
        told_ticks = []
        for again in range(40):
            tanks = [chance.randint(NIGHT, 4 * NIGHT) for lamp in range(8)]
            lamps = [(tank, chance.randint(0, tank), naive_books.some_away(chance, 16, 0.1)) for tank in tanks]
            days = [(chance.randint(0, 7 * NIGHT), 0, 0, chance.randint(1, NIGHT), chance.randint(1, 6))
                    for day in range(16)]
            told_ticks.append(self.ticks(made_book(chance.randint(0, 9 * NIGHT), 0, lamps, days)))
        self.assertIn(None, told_ticks)
        self.assertGreater(len(set(told_ticks)), 10)


class Handed(unittest.TestCase):
    """Point 0.3."""

    def test_what_is_handed_in_stays_and_is_told_alike_again(self):
        chance = random.Random(105)
        for again in range(40):
            book = naive_books.some_book(chance, 3, 3, 6, 6)
            before = repr(book)
            answers = [(most_even(book), even_web(book, 1)) for twice in range(2)]
            self.assertEqual(answers[0], answers[1])
            self.assertEqual(repr(book), before)
