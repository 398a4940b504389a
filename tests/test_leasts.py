import random
import unittest

from lamprota.books import boat_moved, cut_to, left_out, made_book, need, with_oil, with_store
from lamprota.leasts import boat_days, least_oil, least_store, longest_beginning, spared
from lamprota.telling import told
from lamprota.walk import fault
from lamprota.webs import least_side
from tests import naive, naive_books, naive_webs

MOST = 10 ** 30
NIGHT = 10 ** 15
SOUGHT = ((least_oil, with_oil), (least_store, with_store))


def has_rota(book):
    return naive_books.least_cost(book) is not None


def great_book(chance):
    """A book of 16 nights of about 10**15 ticks."""
    holds = chance.choice((1, 2, 9)) * NIGHT
    tanks = [chance.randint(NIGHT, holds) for lamp in range(8)]
    lamps = [(tank, chance.randint(0, tank // 4), naive_books.some_away(chance, 16, 0.02)) for tank in tanks]
    days = [(chance.choice((0, chance.randint(0, 8 * NIGHT))), chance.choice((0, chance.randint(0, 3 * NIGHT))),
             chance.randint(0, NIGHT), chance.randint(NIGHT // 2, NIGHT), chance.randint(1, 5)) for day in range(16)]
    return made_book(chance.randint(0, 9 * NIGHT), chance.randint(0, 30 * NIGHT), lamps, days)


class Papers(unittest.TestCase):
    def assertSide(self, book, side):
        """The side is the least one of a book without a rota."""
        web = naive_books.web_of(book)
        self.assertIs(type(side), tuple)
        self.assertLess(naive_webs.worth(web, side), need(book))
        self.assertEqual(side, least_side(web, 0, 1))

    def assertLeast(self, book, sought, changed):
        """What is told is right by its own papers; gives back the number."""
        answer = sought(book)
        if answer is None:
            self.assertEqual(told(changed(book, MOST))[0], "none", book)
            return None
        self.assertTrue(type(answer) is tuple and len(answer) == 3)
        number, rota, side = answer
        self.assertTrue(type(number) is int and 0 <= number <= MOST)
        self.assertIsNone(fault(changed(book, number), rota), book)
        if number == 0:
            self.assertIsNone(side)
        else:
            self.assertSide(changed(book, number - 1), side)
        return number


class LeastOil(Papers):
    """Points 8.1 and 8.2: least_oil."""

    def least(self, book):
        return self.assertLeast(book, least_oil, with_oil)

    def test_a_plain_book(self):
        book = made_book(0, 0, [(9, 2, ())], [(3, 1, 7, 8, 1)])
        self.assertEqual(least_oil(book), (2, ((3, 1, (6,), ((0, 0, 8),)),), (0,)))

    def test_none_is_needed(self):
        book = made_book(0, 7, [(9, 8, ())], [(0, 0, 0, 8, 1)])
        self.assertEqual(least_oil(book), (0, ((0, 0, (0,), ((0, 0, 8),)),), None))
        for days in ([(8, 0, 0, 8, 1)], [(0, 8, 10 ** 15, 8, 1)], [(0, 0, 0, 8, 0)], [(5, 3, 1, 8, 1)]):
            self.assertEqual(self.least(made_book(0, 0, [(8, 0, ())], days)), 0)

    def test_what_the_store_can_not_keep_goes_into_the_tanks(self):
        days = [(0, 0, 0, 4, 1), (0, 0, 0, 6, 1)]
        for keep, tank, number in ((0, 10, 10), (6, 6, 10), (1, 9, 10), (0, 9, None), (5, 4, None), (2, 7, None)):
            self.assertEqual(self.least(made_book(keep, 0, [(tank, 0, ())], days)), number)

    def test_later_oil_is_used_too(self):
        book = made_book(9, 0, [(9, 0, ())], [(0, 1, 5, 4, 1), (2, 0, 0, 3, 1), (9, 0, 0, 5, 1)])
        self.assertEqual(self.least(book), 4)

    def test_no_oil_does(self):
        days = [(9, 9, 0, 4, 1), (9, 9, 0, 4, 2)]
        away = made_book(MOST, 3, [(9, 0, (1,)), (9, 9, ())], days)
        small = made_book(MOST, 3, [(9, 0, ()), (3, 3, ())], days)
        late = made_book(0, 3, [(8, 0, (0,)), (4, 0, ())], [(0, 0, 0, 4, 1), (0, 0, 0, 9, 1), (99, 0, 0, 1, 0)])
        for book in (away, small, late):
            self.assertIsNone(least_oil(book))
            self.assertIsNone(least_oil(with_oil(book, MOST)))

    def test_each_number_tried(self):
        chance = random.Random(81)
        numbers = []
        for again in range(200):
            book = naive_books.tight_book(chance, 2, 3)
            tried = [oil for oil in range(need(book) + 2) if has_rota(with_oil(book, oil))]
            numbers.append(self.least(book))
            self.assertEqual(numbers[-1], min(tried, default=None), book)
        self.assertGreater(min(numbers.count(None), numbers.count(0)), 40)
        self.assertTrue({1, 2} <= set(numbers))

    def test_great_numbers(self):
        lamps = [(MOST, 0, ())] * 8
        self.assertEqual(self.least(made_book(0, 0, lamps, [(0, 0, 0, NIGHT, 8)] * 16)), 128 * NIGHT)
        self.assertEqual(self.least(made_book(0, 0, lamps, [(1, 0, 0, NIGHT, 8)] * 16)), 128 * NIGHT - 16)
        lamps = [(NIGHT, 0, ())] * 8
        self.assertEqual(self.least(made_book(MOST, 5, lamps, [(0, 0, 0, NIGHT, 8)] * 16)), 128 * NIGHT)
        self.assertEqual(self.least(made_book(120 * NIGHT, 5, lamps, [(0, 0, 0, NIGHT, 8)] * 16)), 128 * NIGHT)
        self.assertIsNone(self.least(made_book(120 * NIGHT - 1, 5, lamps, [(0, 0, 0, NIGHT, 8)] * 16)))
        self.assertEqual(self.least(made_book(0, 0, [(10 ** 14, 0, ())], [(0, 0, 0, 10 ** 14, 1)])), 10 ** 14)


class LeastStore(Papers):
    """Points 8.1 and 8.2: least_store."""

    def least(self, book):
        return self.assertLeast(book, least_store, with_store)

    def test_a_plain_book(self):
        book = made_book(99, 9, [(6, 0, ())], [(0, 0, 0, 3, 1), (0, 0, 0, 5, 1)])
        number, rota, side = least_store(book)
        self.assertEqual(number, 2)
        self.assertIsNone(fault(with_store(book, 2), rota))
        # The tank's 6 measures and the one that is kept are all that leaves the sea, the store and the tank.
        self.assertEqual(side, (0, 2, 3))

    def test_none_must_be_kept(self):
        for days in ([(8, 0, 0, 8, 1)], [(0, 0, 0, 8, 0)] * 3, [(5, 3, 1, 8, 1)] * 3):
            self.assertEqual(self.least(made_book(7, 0, [(8, 0, ())], days)), 0)
        self.assertEqual(self.least(made_book(7, 9, [(9, 0, ())], [(0, 0, 0, 3, 1)] * 3)), 0)

    def test_what_is_kept_over_several_nights(self):
        days = [(0, 0, 0, 4, 1)] * 4
        for tank, number in ((4, 12), (5, 11), (15, 1), (16, 0), (3, None)):
            self.assertEqual(self.least(made_book(0, 16, [(tank, 0, ())], days)), number)

    def test_oil_that_is_kept_over_each_of_several_nights_again(self):
        # What a morning brings must last for two nights.
        days = [(8, 0, 0, 4, 1), (0, 0, 0, 4, 1)] * 3
        for tank, number in ((4, 4), (7, 1), (8, 0)):
            self.assertEqual(self.least(made_book(5, 0, [(tank, 0, ())], days)), number)

    def test_one_more_to_keep_counts_in_several_nights(self):
        # One measure lacks in the last night alone for each that the store keeps too little over each of two nights.
        days = [(9, 0, 0, 1, 0), (0, 0, 0, 4, 1), (9, 0, 0, 1, 0), (0, 0, 0, 4, 1)]
        lamps = [(9, 0, (3,)), (9, 0, (1,))]
        self.assertEqual(self.least(made_book(0, 0, lamps, days)), 0)
        lamps = [(4, 0, ())]
        self.assertEqual(self.least(made_book(0, 0, lamps, days)), 0)
        days = [(9, 0, 0, 3, 1), (0, 0, 0, 4, 1), (9, 0, 0, 3, 1), (0, 0, 0, 4, 1)]
        self.assertEqual(self.least(made_book(0, 0, lamps, days)), 3)

    def test_no_store_does(self):
        days = [(9, 9, 0, 4, 1), (9, 9, 0, 4, 2)]
        away = made_book(3, 99, [(9, 0, (1,)), (9, 9, ())], days)
        small = made_book(3, 99, [(9, 0, ()), (3, 3, ())], days)
        late = made_book(3, 3, [(9, 0, ())], [(0, 0, 0, 4, 1), (99, 0, 0, 1, 0)])
        little = made_book(MOST, 3, [(9, 0, ())], [(0, 0, 0, 2, 1), (0, 0, 0, 2, 1)])
        for book in (away, small, late, little):
            self.assertIsNone(least_store(book))
            self.assertIsNone(least_store(with_store(book, MOST)))

    def test_each_number_tried(self):
        chance = random.Random(82)
        numbers = []
        for again in range(200):
            book = naive_books.tight_book(chance, 2, 4)
            tried = [keep for keep in range(need(book) + 2) if has_rota(with_store(book, keep))]
            numbers.append(self.least(book))
            self.assertEqual(numbers[-1], min(tried, default=None), book)
        self.assertGreater(min(numbers.count(None), numbers.count(0)), 40)
        self.assertTrue({1, 2} <= set(numbers))

    def test_great_numbers(self):
        days = [(0, 0, 0, NIGHT, 8)] * 16
        for tank, number in ((NIGHT, 120 * NIGHT), (2 * NIGHT, 112 * NIGHT), (16 * NIGHT - 1, 8), (16 * NIGHT, 0)):
            self.assertEqual(self.least(made_book(3, MOST, [(tank, 0, ())] * 8, days)), number)
        self.assertIsNone(self.least(made_book(3, MOST, [(NIGHT - 1, 0, ())] * 8, days)))
        days = [(0, 0, 0, 1, 0), (0, 0, 0, 10 ** 14, 1)]
        self.assertEqual(self.least(made_book(3, MOST, [(10 ** 14, 0, (0,))], days)), 0)
        self.assertEqual(self.least(made_book(3, MOST, [(10 ** 14, 0, ())], [(0, 0, 0, 10 ** 14, 1)] * 2)), 10 ** 14)


class Both(Papers):
    """Points 8.1 and 8.2: least_oil and least_store alike."""

    def test_the_books_own_number_makes_no_difference(self):
        chance = random.Random(83)
        for again in range(60):
            book = naive_books.some_book(chance, 3, 4, 6, 6)
            for sought, changed in SOUGHT:
                for number in (0, 1, chance.randint(2, 9), MOST):
                    self.assertEqual(sought(changed(book, number)), sought(book))

    def test_one_less_does_not_and_one_more_does(self):
        chance = random.Random(84)
        for again in range(150):
            book = naive_books.tight_book(chance, 4, 8)
            for sought, changed in SOUGHT:
                number = self.assertLeast(book, sought, changed)
                if number is not None:
                    self.assertEqual(told(changed(book, number + 1))[0], "rota")
                    self.assertEqual(number == 0 or told(changed(book, number - 1))[0] == "none", True)

    def test_small_rotas_walked_tick_by_tick(self):
        chance = random.Random(85)
        for again in range(100):
            book, rota = naive_books.some_kept(chance)
            for sought, changed in SOUGHT:
                number, other, side = sought(book)
                self.assertIsNone(naive.fault(changed(book, number), other))

    def test_least_sides_gone_through(self):
        chance = random.Random(86)
        done = {least_oil: 0, least_store: 0}
        while min(done.values()) < 6:
            book = naive_books.tight_book(chance, 2, 2)
            for sought, changed in SOUGHT:
                answer = sought(book)
                if answer is not None and answer[0] > 0:
                    web = naive_books.web_of(changed(book, answer[0] - 1))
                    self.assertEqual(answer[2], naive_webs.least_side(web, 0, 1))
                    done[sought] += 1

    def test_great_books_by_chance(self):
        chance = random.Random(87)
        numbers = []
        for again in range(40):
            book = great_book(chance)
            for sought, changed in SOUGHT:
                numbers.append(self.assertLeast(book, sought, changed))
        self.assertTrue(None in numbers and 0 in numbers)
        self.assertGreater(len([number for number in numbers if number is not None and number > 10 ** 14]), 20)


class LongestBeginning(Papers):
    """Points 8.1 and 8.2: longest_beginning."""

    def count(self, book):
        answer = longest_beginning(book)
        self.assertTrue(type(answer) is tuple and len(answer) == 3)
        count, rota, side = answer
        self.assertIs(type(count), int)
        if count == 0:
            self.assertIsNone(rota)
        else:
            self.assertIsNone(fault(cut_to(book, count), rota), book)
        if count == len(book[3]):
            self.assertIsNone(side)
        else:
            self.assertSide(cut_to(book, count + 1), side)
        return count

    def test_plain_books(self):
        book = made_book(9, 4, [(9, 0, ())], [(0, 0, 0, 3, 1), (1, 0, 0, 2, 1), (0, 0, 0, 1, 1), (9, 0, 0, 1, 1)])
        self.assertEqual(self.count(book), 2)
        self.assertEqual(longest_beginning(book)[2], (0,))
        self.assertEqual(self.count(with_oil(book, 2)), 0)
        self.assertEqual(longest_beginning(with_oil(book, 2)), (0, None, (0,)))
        self.assertEqual(self.count(with_oil(book, 3)), 1)
        self.assertEqual(self.count(with_oil(book, 5)), 4)

    def test_one_day(self):
        book = made_book(0, 3, [(9, 0, ())], [(0, 0, 0, 3, 1)])
        self.assertEqual(longest_beginning(book), (1, ((0, 0, (3,), ((0, 0, 3),)),), None))
        book = made_book(0, 2, [(9, 0, ())], [(0, 0, 0, 3, 1)])
        self.assertEqual(longest_beginning(book), (0, None, (0,)))

    def test_days_away_end_it(self):
        days = [(9, 9, 0, 1, 1)] * 16
        for day in range(16):
            self.assertEqual(self.count(made_book(9, 9, [(9, 9, (day,))], days)), day)
            self.assertEqual(self.count(made_book(9, 9, [(9, 9, (day,)), (9, 9, (day,))], days)), day)
        self.assertEqual(self.count(made_book(9, 9, [(9, 9, (3,)), (9, 9, (5, 6))], days)), 16)

    def test_a_later_day_that_could_be_kept_does_not_count(self):
        days = [(0, 0, 0, 2, 1), (9, 0, 0, 1, 0), (9, 0, 0, 1, 1)]
        self.assertEqual(self.count(made_book(0, 0, [(9, 0, ())], days)), 0)

    def test_each_count_tried(self):
        chance = random.Random(88)
        counts = []
        for again in range(300):
            book = naive_books.some_book(chance, 2, 4, 4, 3)
            tried = [many for many in range(1, len(book[3]) + 1) if has_rota(cut_to(book, many))]
            counts.append((self.count(book), len(book[3])))
            self.assertEqual(counts[-1][0], max(tried, default=0), book)
        for count in range(5):
            self.assertIn((count, 4), counts)

    def test_great_books_by_chance(self):
        chance = random.Random(89)
        self.assertGreater(len({self.count(great_book(chance)) for again in range(40)}), 3)


class BoatDays(unittest.TestCase):
    """Point 8.3: boat_days."""

    def test_plain_books(self):
        book = made_book(9, 0, [(9, 2, ())], [(0, 0, 0, 2, 1), (0, 0, 0, 1, 0), (4, 0, 0, 4, 1), (0, 0, 0, 1, 0)])
        self.assertEqual(boat_days(book, 2), (0, 1, 2))
        # Boats that bring nothing can be moved to each day, where the book has a rota.
        for day in (0, 1, 3):
            self.assertEqual(boat_days(book, day), (0, 1, 2, 3))
        self.assertEqual(boat_days(with_store(book, 0), 2), (0, 1, 2))
        small = made_book(1, 0, [(4, 2, ())], book[3])
        self.assertEqual(boat_days(small, 2), (1, 2))
        self.assertEqual(boat_days(with_store(small, 0), 2), (1, 2))

    def test_a_book_without_a_rota_that_has_one_when_a_boat_is_moved(self):
        book = made_book(9, 0, [(9, 0, ())], [(0, 0, 0, 2, 1), (0, 0, 0, 2, 1), (4, 0, 0, 1, 0)])
        self.assertEqual(told(book)[0], "none")
        self.assertEqual(boat_days(book, 2), (0,))
        for day in (0, 1):
            self.assertEqual(boat_days(book, day), ())

    def test_beside_another_boat(self):
        # Two boats on one morning are more than store and tank can hold over the night.
        book = made_book(2, 0, [(4, 0, ())], [(6, 0, 0, 2, 1), (0, 0, 0, 2, 1), (6, 0, 0, 6, 1)])
        self.assertEqual(boat_days(book, 2), ())
        book = made_book(2, 0, [(6, 0, ())], [(6, 0, 0, 2, 1), (0, 0, 0, 2, 1), (6, 0, 0, 6, 1)])
        self.assertEqual(boat_days(book, 2), (1, 2))
        self.assertEqual(boat_days(book, 0), (0,))

    def test_boats_that_together_bring_the_most(self):
        book = made_book(MOST, 0, [(MOST, 0, ())], [(MOST - 1, 0, 0, NIGHT, 1), (1, 0, 0, NIGHT, 1)])
        self.assertEqual(boat_days(book, 0), (0,))
        self.assertEqual(boat_days(book, 1), (0, 1))

    def test_each_day_tried(self):
        chance = random.Random(91)
        kinds = {}
        for again in range(150):
            book = naive_books.tight_book(chance, 2, 4)
            for day in range(len(book[3])):
                answer = boat_days(book, day)
                self.assertIs(type(answer), tuple)
                tried = [other for other in range(len(book[3])) if has_rota(boat_moved(book, day, other))]
                self.assertEqual(answer, tuple(tried), (book, day))
                self.assertEqual(day in answer, has_rota(book))
                kinds[(len(answer) > 0, day in answer)] = True
        self.assertEqual(len(kinds), 3)


class Spared(unittest.TestCase):
    """Point 8.3: spared."""

    def test_plain_books(self):
        days = [(9, 0, 0, 2, 1), (9, 0, 0, 2, 1)]
        self.assertEqual(spared(made_book(9, 0, [(9, 0, ())], days)), ())
        self.assertEqual(spared(made_book(9, 0, [(9, 0, ())] * 3, days)), (0, 1, 2))
        self.assertEqual(spared(made_book(9, 0, [(9, 0, ()), (1, 0, ())], days)), (1,))
        self.assertEqual(spared(made_book(9, 0, [(9, 0, (0,)), (9, 0, (1,)), (9, 9, (0, 1))], days)), (2,))
        self.assertEqual(spared(made_book(9, 0, [(9, 0, (0,)), (9, 0, ())], days)), (0,))

    def test_oil_in_the_tank_of_a_lamp_left_out_is_lost(self):
        days = [(2, 0, 0, 2, 1), (0, 0, 0, 2, 1)]
        self.assertEqual(spared(made_book(9, 0, [(9, 2, ()), (9, 0, ())], days)), (1,))

    def test_a_book_without_a_rota_spares_none(self):
        self.assertEqual(spared(made_book(9, 0, [(9, 0, ())] * 4, [(3, 0, 0, 2, 2)])), ())

    def test_nothing_wanted_spares_each(self):
        self.assertEqual(spared(made_book(0, 0, [(0, 0, ())] * 8, [(0, 0, 0, NIGHT, 0)] * 16)), tuple(range(8)))
        self.assertEqual(spared(made_book(0, 0, [(0, 0, ())], [(0, 0, 0, 1, 0)])), (0,))

    def test_each_lamp_tried(self):
        chance = random.Random(92)
        lengths = []
        for again in range(300):
            book = naive_books.some_book(chance, 3, 2, 4, 4)
            answer = spared(book)
            self.assertIs(type(answer), tuple)
            tried = [lamp for lamp in range(len(book[2])) if has_rota(left_out(book, lamp))]
            self.assertEqual(answer, tuple(tried), book)
            lengths.append(len(answer))
        self.assertEqual(set(lengths), {0, 1, 2, 3})


class Handed(unittest.TestCase):
    """Point 0.3."""

    def test_what_is_handed_in_stays_and_is_told_alike_again(self):
        chance = random.Random(93)
        for again in range(40):
            book = naive_books.some_book(chance, 3, 3, 6, 6)
            before = repr(book)
            answers = [(least_oil(book), least_store(book), longest_beginning(book), boat_days(book, 0), spared(book))
                       for twice in range(2)]
            self.assertEqual(answers[0], answers[1])
            self.assertEqual(repr(book), before)
