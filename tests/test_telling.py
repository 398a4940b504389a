import random
import unittest

from lamprota.books import made_book, need, with_oil, with_store
from lamprota.bookweb import web_of
from lamprota.telling import none_stands, told
from lamprota.walk import fault
from lamprota.webs import least_side
from tests import naive, naive_books, naive_webs

MOST = 10 ** 30
NIGHT = 10 ** 15


class Telling(unittest.TestCase):
    def assertTold(self, book):
        """What is told is right by its own paper; gives back its word."""
        answer = told(book)
        self.assertTrue(type(answer) is tuple and len(answer) == 2)
        word, paper = answer
        self.assertIs(type(paper), tuple)
        if word == "rota":
            self.assertIsNone(fault(book, paper), book)
        else:
            self.assertEqual(word, "none")
            self.assertLess(naive_webs.worth(naive_books.web_of(book), paper), need(book))
            self.assertEqual(paper, least_side(web_of(book), 0, 1))
            self.assertIs(none_stands(book, paper), True)
        return word


class Told(Telling):
    """Point 6.1: told."""

    def test_a_book_with_just_enough_and_one_with_one_measure_less(self):
        for oil, in_tank, boat, most in ((6, 0, 0, 0), (0, 6, 0, 0), (0, 0, 6, 0), (0, 0, 0, 6), (1, 2, 2, 1)):
            days = [(boat, most, 5, 6, 1)]
            self.assertEqual(self.assertTold(made_book(0, oil, [(6, in_tank, ())], days)), "rota")
            self.assertEqual(self.assertTold(made_book(0, oil, [(6, in_tank, ())], [(boat, most, 5, 7, 1)])), "none")

    def test_the_rota_of_a_plain_book(self):
        book = made_book(0, 0, [(6, 0, ())], [(6, 0, 0, 6, 1)])
        self.assertEqual(told(book), ("rota", ((6, 0, (6,), ((0, 0, 6),)),)))

    def test_the_side_of_a_plain_book(self):
        # Nothing but the sea stands ahead of what is too little; in the second book the tank is too small.
        self.assertEqual(told(made_book(0, 0, [(6, 0, ())], [(5, 0, 0, 6, 1)])), ("none", (0,)))
        self.assertEqual(told(made_book(0, 0, [(5, 0, ())], [(9, 0, 0, 6, 1)])), ("none", (0, 2, 3)))
        self.assertEqual(told(made_book(0, 0, [(9, 0, (0,))], [(9, 0, 0, 6, 1)])), ("none", (0, 2, 3, 4)))

    def test_what_the_store_keeps_decides(self):
        for keep, word in ((0, "none"), (5, "none"), (6, "rota"), (7, "rota")):
            book = made_book(keep, 0, [(6, 0, ())], [(12, 0, 0, 6, 1), (0, 0, 0, 6, 1)])
            self.assertEqual(self.assertTold(book), word)

    def test_what_a_tank_holds_decides(self):
        for tank, word in ((11, "none"), (12, "rota")):
            book = made_book(0, 0, [(tank, 0, ())], [(12, 0, 0, 6, 1), (0, 0, 0, 6, 1)])
            self.assertEqual(self.assertTold(book), word)

    def test_days_away_decide(self):
        days = [(9, 0, 0, 2, 1)] * 3
        for away, word in (((0,), "rota"), ((1,), "none"), ((0, 2), "rota"), ((0, 1, 2), "none")):
            self.assertEqual(self.assertTold(made_book(9, 9, [(9, 9, away), (9, 0, (1,))], days)), word)

    def test_oil_in_a_tank_can_not_be_moved(self):
        self.assertEqual(self.assertTold(made_book(9, 0, [(9, 9, ()), (9, 0, ())], [(0, 0, 0, 4, 2)])), "none")
        self.assertEqual(self.assertTold(made_book(9, 0, [(9, 9, ()), (9, 4, ())], [(0, 0, 0, 4, 2)])), "rota")

    def test_a_lamp_burns_at_most_the_whole_night(self):
        self.assertEqual(self.assertTold(made_book(9, 0, [(9, 9, ()), (9, 3, ())], [(0, 0, 0, 4, 2)])), "none")

    def test_more_oil_at_first_than_the_store_keeps(self):
        book = made_book(1, 9, [(9, 0, ())], [(0, 0, 0, 2, 1), (0, 0, 0, 7, 1)])
        self.assertEqual(self.assertTold(book), "rota")
        book = made_book(1, 9, [(7, 0, ())], [(0, 0, 0, 2, 1), (0, 0, 0, 7, 1)])
        self.assertEqual(self.assertTold(book), "none")

    def test_a_need_of_nought(self):
        self.assertEqual(told(made_book(0, 0, [(0, 0, ())], [(0, 0, 0, 1, 0)])), ("rota", ((0, 0, (0,), ()),)))
        for keep in (0, 3):
            book = made_book(keep, 4, [(5, 2, (0, 1)), (1, 1, ())], [(6, 6, 6, 9, 0)] * 2)
            self.assertEqual(self.assertTold(book), "rota")

    def test_small_books_gone_through(self):
        chance = random.Random(61)
        words = []
        for again in range(500):
            book = naive_books.some_book(chance, 2, 3, 4, 4)
            words.append(self.assertTold(book))
            self.assertEqual(words[-1], "none" if naive_books.least_cost(book) is None else "rota", book)
        self.assertGreater(min(words.count("rota"), words.count("none")), 100)

    def test_least_sides_gone_through(self):
        chance = random.Random(62)
        done = 0
        while done < 60:
            book = naive_books.some_book(chance, 2, 2, 5, 5)
            word, paper = told(book)
            if word == "none":
                self.assertEqual(paper, naive_webs.least_side(naive_books.web_of(book), 0, 1))
                done += 1

    def test_a_book_that_a_rota_keeps(self):
        chance = random.Random(63)
        for again in range(300):
            book, rota = naive_books.some_kept(chance)
            self.assertEqual(self.assertTold(book), "rota")
            self.assertIsNone(naive.fault(book, told(book)[1]))


class AtTheBounds(Telling):
    """Points 1.2 and 6.1."""

    def test_most_of_all(self):
        lamps = [(MOST, MOST, ())] * 8
        self.assertEqual(self.assertTold(made_book(MOST, MOST, lamps, [(MOST, MOST, NIGHT, NIGHT, 8)] * 16)), "rota")
        lamps = [(MOST, MOST, tuple(range(16)))] * 8
        self.assertEqual(self.assertTold(made_book(MOST, MOST, lamps, [(MOST, MOST, NIGHT, NIGHT, 8)] * 16)), "none")

    def test_just_enough_and_one_measure_less(self):
        # All oil comes on the first day and must be carried over sixteen nights, in the store or in the tanks.
        days = [(0, 0, 0, NIGHT, 8)] * 15
        for most, word in ((128 * NIGHT, "rota"), (128 * NIGHT - 1, "none")):
            first = (0, most, 1, NIGHT, 8)
            self.assertEqual(self.assertTold(made_book(MOST, 0, [(NIGHT, 0, ())] * 8, [first] + days)), word)
            self.assertEqual(self.assertTold(made_book(0, 0, [(16 * NIGHT, 0, ())] * 8, [first] + days)), word)
        lamps = [(NIGHT, 0, ())] * 8
        for keep, word in ((120 * NIGHT, "rota"), (120 * NIGHT - 1, "none")):
            self.assertEqual(self.assertTold(made_book(keep, MOST, lamps, [(0, 0, 0, NIGHT, 8)] * 16)), word)

    def test_great_books_by_chance(self):
        chance = random.Random(64)
        words = []
        for again in range(40):
            tanks = [chance.randint(NIGHT, 4 * NIGHT) for lamp in range(8)]
            lamps = [(tank, chance.randint(0, tank), naive_books.some_away(chance, 16, 0.1)) for tank in tanks]
            days = [(chance.randint(0, 4 * NIGHT), chance.randint(0, 3 * NIGHT), chance.randint(0, NIGHT),
                     chance.randint(NIGHT // 2, NIGHT), chance.randint(1, 6)) for day in range(16)]
            words.append(self.assertTold(made_book(chance.randint(0, 9 * NIGHT), 0, lamps, days)))
        self.assertEqual(set(words), {"rota", "none"})


class NoneStands(unittest.TestCase):
    """Point 6.1: none_stands."""

    def setUp(self):
        # Too little oil by one measure: of the sides, those stand that let just the 5 measures out.
        self.book = made_book(0, 0, [(9, 2, ())], [(2, 1, 0, 6, 1)])

    def test_the_side_told_and_others(self):
        self.assertEqual(told(self.book), ("none", (0,)))
        web = naive_books.web_of(self.book)
        for side in naive_webs.sides(web, 0, 1):
            self.assertIs(none_stands(self.book, side), naive_webs.worth(web, side) < 6)
        self.assertIs(none_stands(self.book, (0,)), True)
        self.assertIs(none_stands(self.book, (0, 2)), False)

    def test_a_worth_just_below_the_need_and_just_the_need(self):
        for boat, stands in ((5, True), (6, False), (7, False)):
            book = made_book(0, 0, [(9, 0, ())], [(boat, 0, 0, 6, 1)])
            self.assertIs(none_stands(book, (0,)), stands)

    def test_tuples_that_are_no_side(self):
        for side in ((), (1,), (2,), (0, 1), (0, 1, 2), (2, 0), (0, 0), (0, 5, 2), (-1, 0), (0, 6), (0, 7),
                     (-10 ** 60, 0), (0, 10 ** 60), (2, 3, 4, 5), (1, 2, 3, 4, 5), (0, 1, 2, 3, 4, 5)):
            self.assertIs(none_stands(self.book, side), False)

    def test_never_of_a_book_with_a_rota(self):
        chance = random.Random(65)
        for again in range(40):
            book, rota = naive_books.some_kept(chance, 2, 2)
            for side in naive_webs.sides(naive_books.web_of(book), 0, 1):
                self.assertIs(none_stands(book, side), False)

    def test_small_books_by_chance(self):
        chance = random.Random(66)
        for again in range(60):
            book = naive_books.some_book(chance, 1, 2, 5, 5)
            web = naive_books.web_of(book)
            standing = [side for side in naive_webs.sides(web, 0, 1) if naive_webs.worth(web, side) < need(book)]
            self.assertEqual([side for side in naive_webs.sides(web, 0, 1) if none_stands(book, side)], standing)
            self.assertEqual(told(book)[0], "none" if standing else "rota")


class More(Telling):
    """Point 6.2."""

    def with_lamp(self, book, place, lamp):
        return book[:2] + (book[2][:place] + (lamp,) + book[2][place + 1:], book[3])

    def with_day(self, book, place, day):
        return book[:3] + (book[3][:place] + (day,) + book[3][place + 1:],)

    def greater(self, book, much):
        """The book with more in each one thing that never takes a rota from it."""
        yield with_oil(book, book[1] + much)
        yield with_store(book, book[0] + much)
        for place, (tank, oil, away) in enumerate(book[2]):
            yield self.with_lamp(book, place, (tank + much, oil, away))
            yield self.with_lamp(book, place, (tank, min(tank, oil + much), away))
            yield self.with_lamp(book, place, (tank, oil, ()))
            for day in away:
                yield self.with_lamp(book, place, (tank, oil, tuple(other for other in away if other != day)))
        for place, (boat, most, price, length, wanted) in enumerate(book[3]):
            yield self.with_day(book, place, (boat + much, most, price, length, wanted))
            yield self.with_day(book, place, (boat, most + much, price, length, wanted))

    def test_a_book_that_has_a_rota_still_has_one(self):
        chance = random.Random(67)
        done = 0
        while done < 120:
            book = naive_books.some_book(chance, 3, 3, 6, 6)
            if told(book)[0] == "rota":
                for other in self.greater(book, chance.choice((1, 2, 10 ** 29))):
                    self.assertEqual(self.assertTold(other), "rota", (book, other))
                done += 1


class Handed(unittest.TestCase):
    """Point 0.3."""

    def test_what_is_handed_in_stays_and_is_told_alike_again(self):
        chance = random.Random(69)
        for again in range(40):
            book = naive_books.some_book(chance, 3, 3, 6, 6)
            before = repr(book)
            answers = [(told(book), none_stands(book, (0,))) for twice in range(2)]
            self.assertEqual(answers[0], answers[1])
            self.assertEqual(repr(book), before)
