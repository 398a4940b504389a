import copy
import unittest

from lamprota.books import (boat_moved, can_burn, cut_to, left_out, made_book, need, night_need, with_oil,
                            with_store)
from lamprota.errors import BadBook

LAMPS = ((9, 4, (0, 2)), (7, 7, ()), (5, 0, (1, 2)))
DAYS = ((11, 12, 13, 14, 3), (21, 22, 23, 24, 0), (31, 32, 33, 34, 2))
BOOK = (100, 50, LAMPS, DAYS)
PLAIN_LAMP = (0, 0, ())
PLAIN_DAY = (0, 0, 0, 1, 0)
MEASURES = 10 ** 30


def lists_of(lamps, days):
    return [(tank, oil, list(away)) for tank, oil, away in lamps], list(days)


def tuples_all_through(thing):
    if isinstance(thing, int):
        return True
    return type(thing) is tuple and all(tuples_all_through(part) for part in thing)


class Refusing(unittest.TestCase):
    def assertRefused(self, store, oil, lamps, days):
        with self.assertRaises(BadBook):
            made_book(store, oil, lamps, days)

    def assertMade(self, store, oil, lamps, days):
        self.assertEqual(made_book(store, oil, lamps, days), (store, oil, tuple(lamps), tuple(days)))


class Made(Refusing):
    """Points 0.3 and 1.1."""

    def test_of_tuples(self):
        self.assertEqual(made_book(100, 50, LAMPS, DAYS), BOOK)
        self.assertTrue(tuples_all_through(made_book(100, 50, LAMPS, DAYS)))

    def test_of_lists(self):
        lamps, days = lists_of(LAMPS, DAYS)
        book = made_book(100, 50, lamps, days)
        self.assertEqual(book, BOOK)
        self.assertTrue(tuples_all_through(book))

    def test_of_lists_within_tuples_and_tuples_within_lists(self):
        lamps, days = lists_of(LAMPS, DAYS)
        self.assertEqual(made_book(100, 50, tuple(lamps), DAYS), BOOK)
        self.assertEqual(made_book(100, 50, list(LAMPS), days), BOOK)

    def test_lists_handed_in_stay(self):
        lamps, days = lists_of(LAMPS, DAYS)
        kept = copy.deepcopy((lamps, days))
        made_book(100, 50, lamps, days)
        self.assertEqual((lamps, days), kept)

    def test_lists_of_a_refused_book_stay(self):
        lamps, days = lists_of(LAMPS + ((1, 2, (0,)),), DAYS)
        kept = copy.deepcopy((lamps, days))
        self.assertRefused(100, 50, lamps, days)
        self.assertEqual((lamps, days), kept)

    def test_lists_changed_behind_the_call_change_nothing(self):
        lamps, days = lists_of(LAMPS, DAYS)
        book = made_book(100, 50, lamps, days)
        lamps[0][2].append(99)
        lamps[2][2].clear()
        lamps.pop()
        days.clear()
        self.assertEqual(book, BOOK)

    def test_made_again_alike(self):
        lamps, days = lists_of(LAMPS, DAYS)
        self.assertEqual(made_book(100, 50, lamps, days), made_book(100, 50, lamps, days))

    def test_a_book_told_may_be_handed_in_again(self):
        book = made_book(100, 50, LAMPS, DAYS)
        self.assertEqual(made_book(book[0], book[1], book[2], book[3]), BOOK)


class Bounds(Refusing):
    """Point 1.2."""

    def assertBounds(self, least, most, parts):
        """`parts` gives what made_book is handed for a number."""
        for number in (least, least + 1, most - 1, most):
            self.assertMade(*parts(number))
        for number in (least - 1, most + 1, least - 10 ** 60, most + 10 ** 60, -most - 1):
            self.assertRefused(*parts(number))

    def test_store(self):
        self.assertBounds(0, MEASURES, lambda n: (n, 0, [PLAIN_LAMP], [PLAIN_DAY]))

    def test_oil(self):
        self.assertBounds(0, MEASURES, lambda n: (0, n, [PLAIN_LAMP], [PLAIN_DAY]))

    def test_a_store_may_have_more_at_first_than_it_keeps(self):
        self.assertMade(3, 4, [PLAIN_LAMP], [PLAIN_DAY])
        self.assertMade(0, MEASURES, [PLAIN_LAMP], [PLAIN_DAY])

    def test_tank_of_each_lamp(self):
        self.assertBounds(0, MEASURES, lambda n: (0, 0, [(n, 0, ()), PLAIN_LAMP], [PLAIN_DAY]))
        self.assertBounds(0, MEASURES, lambda n: (0, 0, [PLAIN_LAMP, (n, 0, ())], [PLAIN_DAY]))

    def test_oil_of_each_lamp_is_at_most_what_its_tank_holds(self):
        for tank in (5, MEASURES):
            self.assertBounds(0, tank, lambda n: (0, 0, [(tank, n, ()), PLAIN_LAMP], [PLAIN_DAY]))
            self.assertBounds(0, tank, lambda n: (0, 0, [PLAIN_LAMP, (tank, n, ())], [PLAIN_DAY]))

    def test_an_empty_tank_has_no_oil(self):
        self.assertMade(0, 0, [(0, 0, ())], [PLAIN_DAY])
        self.assertRefused(0, 0, [(0, 1, ())], [PLAIN_DAY])
        self.assertRefused(0, 0, [(0, -1, ())], [PLAIN_DAY])

    def test_a_tank_and_its_oil_beyond_the_bounds_together(self):
        self.assertRefused(0, 0, [(MEASURES + 1, MEASURES + 1, ())], [PLAIN_DAY])
        self.assertRefused(0, 0, [(-1, -1, ())], [PLAIN_DAY])

    def test_boat_of_each_day(self):
        self.assertBounds(0, MEASURES, lambda n: (0, 0, [PLAIN_LAMP], [(n, 0, 0, 1, 0), PLAIN_DAY]))
        self.assertBounds(0, MEASURES, lambda n: (0, 0, [PLAIN_LAMP], [PLAIN_DAY, (n, 0, 0, 1, 0)]))

    def test_most_of_each_day(self):
        self.assertBounds(0, MEASURES, lambda n: (0, 0, [PLAIN_LAMP], [(0, n, 0, 1, 0), PLAIN_DAY]))
        self.assertBounds(0, MEASURES, lambda n: (0, 0, [PLAIN_LAMP], [PLAIN_DAY, (0, n, 0, 1, 0)]))

    def test_price_of_each_day(self):
        self.assertBounds(0, 10 ** 15, lambda n: (0, 0, [PLAIN_LAMP], [(0, 0, n, 1, 0), PLAIN_DAY]))
        self.assertBounds(0, 10 ** 15, lambda n: (0, 0, [PLAIN_LAMP], [PLAIN_DAY, (0, 0, n, 1, 0)]))

    def test_length_of_each_day(self):
        self.assertBounds(1, 10 ** 15, lambda n: (0, 0, [PLAIN_LAMP], [(0, 0, 0, n, 0), PLAIN_DAY]))
        self.assertBounds(1, 10 ** 15, lambda n: (0, 0, [PLAIN_LAMP], [PLAIN_DAY, (0, 0, 0, n, 0)]))

    def test_wanted_of_each_day_is_at_most_the_count_of_lamps(self):
        for lamps in range(1, 9):
            self.assertBounds(0, lamps, lambda n: (0, 0, [PLAIN_LAMP] * lamps, [(0, 0, 0, 1, n), PLAIN_DAY]))
            self.assertBounds(0, lamps, lambda n: (0, 0, [PLAIN_LAMP] * lamps, [PLAIN_DAY, (0, 0, 0, 1, n)]))

    def test_count_of_lamps(self):
        for lamps in (1, 2, 8):
            self.assertMade(0, 0, [PLAIN_LAMP] * lamps, [PLAIN_DAY])
        for lamps in (0, 9, 10, 100):
            self.assertRefused(0, 0, [PLAIN_LAMP] * lamps, [PLAIN_DAY])
            self.assertRefused(0, 0, (PLAIN_LAMP,) * lamps, (PLAIN_DAY,))

    def test_count_of_days(self):
        for days in (1, 2, 16):
            self.assertMade(0, 0, [PLAIN_LAMP], [PLAIN_DAY] * days)
        for days in (0, 17, 18, 100):
            self.assertRefused(0, 0, [PLAIN_LAMP], [PLAIN_DAY] * days)
            self.assertRefused(0, 0, (PLAIN_LAMP,), (PLAIN_DAY,) * days)

    def test_most_of_all(self):
        lamp = (MEASURES, MEASURES, tuple(range(16)))
        day = (MEASURES, MEASURES, 10 ** 15, 10 ** 15, 8)
        self.assertMade(MEASURES, MEASURES, [lamp] * 8, [day] * 16)


class Away(Refusing):
    """Point 1.2: away has days of the book, rising."""

    def parts(self, away, place):
        lamps = [PLAIN_LAMP, PLAIN_LAMP]
        lamps[place] = (0, 0, away)
        return (0, 0, lamps, [PLAIN_DAY] * 4)

    def test_days_of_the_book_that_rise(self):
        for away in ((), (0,), (3,), (0, 3), (1, 2), (0, 1, 2, 3)):
            for place in (0, 1):
                self.assertMade(*self.parts(away, place))

    def test_days_that_are_none_of_the_book(self):
        for away in ((-1,), (4,), (-1, 0), (0, 4), (-10 ** 60,), (10 ** 60,), (0, 1, 2, 3, 4)):
            for place in (0, 1):
                self.assertRefused(*self.parts(away, place))
                self.assertRefused(*self.parts(list(away), place))

    def test_days_that_fall_or_come_twice(self):
        for away in ((1, 0), (0, 2, 1), (3, 2, 1, 0), (0, 0), (0, 1, 1), (3, 3), (0, 1, 0)):
            for place in (0, 1):
                self.assertRefused(*self.parts(away, place))
                self.assertRefused(*self.parts(list(away), place))


class Parts(Refusing):
    """A lamp or a day of another count of parts."""

    def test_lamps(self):
        for lamp in ((), (0,), (0, 0), (0, 0, (), 0), (0, 0, (), ()), (0, 0, (), 0, 0)):
            self.assertRefused(0, 0, [lamp, PLAIN_LAMP], [PLAIN_DAY])
            self.assertRefused(0, 0, [PLAIN_LAMP, lamp], [PLAIN_DAY])

    def test_days(self):
        for day in ((), (0,), (0, 0, 0, 1), (0, 0, 0, 1, 0, 0), (0, 0, 0, 1, 0, ())):
            self.assertRefused(0, 0, [PLAIN_LAMP], [day, PLAIN_DAY])
            self.assertRefused(0, 0, [PLAIN_LAMP], [PLAIN_DAY, day])


class Needs(unittest.TestCase):
    """Point 1.3."""

    def test_of_a_night(self):
        self.assertEqual([night_need(BOOK, day) for day in range(3)], [42, 0, 68])

    def test_of_a_book(self):
        self.assertEqual(need(BOOK), 110)

    def test_with_nothing_wanted(self):
        book = made_book(0, 0, [PLAIN_LAMP], [PLAIN_DAY, (5, 5, 5, 5, 0)])
        self.assertEqual(night_need(book, 1), 0)
        self.assertEqual(need(book), 0)

    def test_at_the_bounds(self):
        book = made_book(0, 0, [PLAIN_LAMP] * 8, [(0, 0, 0, 10 ** 15, 8)] * 16)
        self.assertEqual(night_need(book, 0), 8 * 10 ** 15)
        self.assertEqual(night_need(book, 15), 8 * 10 ** 15)
        self.assertEqual(need(book), 128 * 10 ** 15)

    def test_of_one_tick(self):
        self.assertEqual(need(made_book(9, 9, [PLAIN_LAMP], [(0, 0, 0, 1, 1)])), 1)


class CanBurn(unittest.TestCase):
    def test_true_or_false(self):
        told = [[can_burn(BOOK, lamp, day) for day in range(3)] for lamp in range(3)]
        self.assertEqual(told, [[False, True, False], [True, True, True], [True, False, False]])
        self.assertTrue(all(type(one) is bool for row in told for one in row))


class Changed(unittest.TestCase):
    """Point 1.4; what is handed in stays."""

    def tearDown(self):
        self.assertEqual(BOOK, (100, 50, ((9, 4, (0, 2)), (7, 7, ()), (5, 0, (1, 2))),
                                ((11, 12, 13, 14, 3), (21, 22, 23, 24, 0), (31, 32, 33, 34, 2))))

    def test_cut_to_one_day(self):
        self.assertEqual(cut_to(BOOK, 1), (100, 50, ((9, 4, (0,)), (7, 7, ()), (5, 0, ())), DAYS[:1]))

    def test_cut_to_some_days(self):
        self.assertEqual(cut_to(BOOK, 2), (100, 50, ((9, 4, (0,)), (7, 7, ()), (5, 0, (1,))), DAYS[:2]))

    def test_cut_to_all_days(self):
        self.assertEqual(cut_to(BOOK, 3), BOOK)

    def test_what_is_cut_is_a_book(self):
        for many in (1, 2, 3):
            book = cut_to(BOOK, many)
            self.assertEqual(made_book(*book), book)
            self.assertTrue(tuples_all_through(book))

    def test_left_out_of_a_lamp_that_is_away_in_some_nights(self):
        self.assertEqual(left_out(BOOK, 0), (100, 50, ((9, 4, (0, 1, 2)), LAMPS[1], LAMPS[2]), DAYS))
        self.assertEqual(left_out(BOOK, 2), (100, 50, (LAMPS[0], LAMPS[1], (5, 0, (0, 1, 2))), DAYS))

    def test_left_out_of_a_lamp_that_is_away_in_none(self):
        self.assertEqual(left_out(BOOK, 1), (100, 50, (LAMPS[0], (7, 7, (0, 1, 2)), LAMPS[2]), DAYS))

    def test_left_out_of_a_lamp_that_is_away_in_all(self):
        book = left_out(BOOK, 1)
        self.assertEqual(left_out(book, 1), book)
        self.assertTrue(tuples_all_through(book))

    def test_boat_moved_ahead(self):
        self.assertEqual(boat_moved(BOOK, 2, 0),
                         (100, 50, LAMPS, ((42, 12, 13, 14, 3), DAYS[1], (0, 32, 33, 34, 2))))

    def test_boat_moved_back(self):
        self.assertEqual(boat_moved(BOOK, 0, 1),
                         (100, 50, LAMPS, ((0, 12, 13, 14, 3), (32, 22, 23, 24, 0), DAYS[2])))

    def test_boat_moved_to_its_own_day(self):
        for day in range(3):
            self.assertEqual(boat_moved(BOOK, day, day), BOOK)

    def test_boat_moved_up_to_the_bound(self):
        book = made_book(0, 0, [PLAIN_LAMP], [(MEASURES - 1, 0, 0, 1, 0), (1, 0, 0, 1, 0)])
        self.assertEqual([day[0] for day in boat_moved(book, 1, 0)[3]], [MEASURES, 0])
        self.assertEqual([day[0] for day in boat_moved(book, 0, 1)[3]], [0, MEASURES])

    def test_with_store(self):
        for store in (0, 99, MEASURES):
            self.assertEqual(with_store(BOOK, store), (store, 50, LAMPS, DAYS))

    def test_with_oil(self):
        for oil in (0, 51, 101, MEASURES):
            self.assertEqual(with_oil(BOOK, oil), (100, oil, LAMPS, DAYS))

    def test_asked_again_alike(self):
        for change in (lambda: cut_to(BOOK, 2), lambda: left_out(BOOK, 1), lambda: boat_moved(BOOK, 0, 2),
                       lambda: with_store(BOOK, 5), lambda: with_oil(BOOK, 5)):
            self.assertEqual(change(), change())
