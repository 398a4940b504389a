import random
import unittest

from lamprota.books import made_book
from lamprota.walk import burnt, cost, evenings, fault, keeps
from tests import naive

# Day 0: 5 + 4 + 1 measures, 7 poured, of the 3 left 1 is kept. Day 1: 1 + 2 + 5 measures, 5 poured, of 3 left 1 is kept.
BOOK = made_book(1, 5, [(6, 2, ()), (4, 0, (1,))], [(4, 3, 7, 4, 2), (2, 5, 11, 3, 1)])
ROTA = ((4, 1, (3, 4), ((0, 0, 4), (1, 0, 4))), (2, 5, (3, 2), ((0, 0, 3),)))
FAR = 10 ** 59


def one_day(book, taken, bought, poured, spans):
    return fault(book, ((taken, bought, poured, spans),))


class Evenings(unittest.TestCase):
    """Points 0.3, 2.1 and 2.2."""

    def test_oil_spilt_and_left(self):
        self.assertEqual(evenings(BOOK, ROTA), [(1, (1, 0)), (1, (1, 2))])

    def test_kinds(self):
        told = evenings(BOOK, ROTA)
        self.assertIs(type(told), list)
        for evening in told:
            self.assertIs(type(evening), tuple)
            self.assertIs(type(evening[1]), tuple)

    def test_a_store_that_has_more_than_it_keeps_spills_behind_the_pouring(self):
        book = made_book(2, 9, [(9, 0, ())], [(0, 0, 0, 1, 0), (0, 0, 0, 1, 0)])
        self.assertEqual(evenings(book, ((0, 0, (6,), ()), (0, 0, (1,), ()))), [(2, (6,)), (1, (7,))])
        self.assertEqual(evenings(book, ((0, 0, (7,), ()), (0, 0, (2,), ()))), [(2, (7,)), (0, (9,))])
        self.assertEqual(evenings(book, ((0, 0, (8,), ()), (0, 0, (0,), ()))), [(1, (8,)), (1, (8,))])

    def test_ticks_burnt_in_several_spans(self):
        book = made_book(0, 0, [(9, 9, ()), (9, 8, ())], [(0, 0, 0, 9, 1)])
        spans = ((0, 0, 2), (0, 5, 6), (1, 2, 5), (1, 6, 9))
        self.assertEqual(evenings(book, ((0, 0, (0, 0), spans),)), [(0, (6, 2))])

    def test_far_numbers(self):
        most = 10 ** 30
        book = made_book(most, most, [(most, 0, ())], [(most, most, 1, 10 ** 15, 1)])
        rota = ((most, most, (most,), ((0, 0, 10 ** 15),)),)
        self.assertIsNone(fault(book, rota))
        self.assertEqual(evenings(book, rota), [(most, (most - 10 ** 15,))])

    def test_a_list_told_is_the_askers_own(self):
        told = evenings(BOOK, ROTA)
        told.clear()
        self.assertEqual(evenings(BOOK, ROTA), [(1, (1, 0)), (1, (1, 2))])
        self.assertEqual(fault(BOOK, ROTA), None)
        self.assertIsNot(evenings(BOOK, ROTA), evenings(BOOK, ROTA))

    def test_book_and_rota_stay_and_are_told_alike_again(self):
        before = repr((BOOK, ROTA))
        told = [(fault(BOOK, ROTA), keeps(BOOK, ROTA), evenings(BOOK, ROTA), cost(BOOK, ROTA), burnt(BOOK, ROTA))
                for again in range(2)]
        self.assertEqual(told[0], told[1])
        self.assertEqual(repr((BOOK, ROTA)), before)


class Keeps(unittest.TestCase):
    def test_a_rota_that_keeps_the_book(self):
        self.assertIsNone(fault(BOOK, ROTA))
        self.assertIs(keeps(BOOK, ROTA), True)

    def test_a_rota_that_does_not(self):
        rota = (ROTA[0], (2, 5, (3, 2), ()))
        self.assertEqual(fault(BOOK, rota), (1, "dark"))
        self.assertIs(type(fault(BOOK, rota)), tuple)
        self.assertIs(keeps(BOOK, rota), False)


class Oil(unittest.TestCase):
    """Point 2.3: boat, market, pour and tank."""

    def test_boat(self):
        book = made_book(9, 0, [(9, 0, ())], [(4, 0, 0, 1, 0)])
        for taken in (0, 1, 4):
            self.assertIsNone(one_day(book, taken, 0, (0,), ()))
        for taken in (-1, 5, -FAR, FAR):
            self.assertEqual(one_day(book, taken, 0, (0,), ()), (0, "boat"))

    def test_a_day_without_a_boat(self):
        book = made_book(9, 0, [(9, 0, ())], [(0, 4, 0, 1, 0)])
        self.assertIsNone(one_day(book, 0, 0, (0,), ()))
        self.assertEqual(one_day(book, 1, 0, (0,), ()), (0, "boat"))

    def test_market(self):
        book = made_book(9, 9, [(9, 0, ())], [(8, 4, 0, 1, 0)])
        for bought in (0, 1, 4):
            self.assertIsNone(one_day(book, 0, bought, (0,), ()))
        for bought in (-1, 5, -FAR, FAR):
            self.assertEqual(one_day(book, 0, bought, (0,), ()), (0, "market"))

    def test_pour_below_nought(self):
        book = made_book(9, 9, [(9, 5, ()), (9, 5, ())], [(0, 0, 0, 1, 0)])
        self.assertIsNone(one_day(book, 0, 0, (0, 0), ()))
        for poured in ((-1, 0), (0, -1), (-1, 2), (2, -1), (-FAR, 0), (0, -FAR)):
            self.assertEqual(one_day(book, 0, 0, poured, ()), (0, "pour"))

    def test_pour_of_more_than_the_store_then_has(self):
        book = made_book(0, 2, [(90, 0, ()), (90, 0, ())], [(3, 4, 0, 1, 0)])
        for taken, bought, has in ((0, 0, 2), (3, 0, 5), (0, 4, 6), (3, 4, 9)):
            for first in (0, 1, has):
                self.assertIsNone(one_day(book, taken, bought, (first, has - first), ()))
                self.assertEqual(one_day(book, taken, bought, (first, has + 1 - first), ()), (0, "pour"))
        self.assertEqual(one_day(book, 0, 0, (FAR, 0), ()), (0, "pour"))

    def test_pour_on_the_next_day_of_what_was_kept(self):
        book = made_book(3, 7, [(90, 0, ())], [(0, 0, 0, 1, 0), (1, 0, 0, 1, 0)])
        for first, kept in ((0, 3), (4, 3), (5, 2), (7, 0)):
            self.assertIsNone(fault(book, ((0, 0, (first,), ()), (1, 0, (kept + 1,), ()))))
            self.assertEqual(fault(book, ((0, 0, (first,), ()), (1, 0, (kept + 2,), ()))), (1, "pour"))

    def test_tank(self):
        book = made_book(0, 99, [(5, 2, ()), (7, 7, ())], [(0, 0, 0, 1, 0)])
        self.assertIsNone(one_day(book, 0, 0, (3, 0), ()))
        for poured in ((4, 0), (0, 1), (90, 0)):
            self.assertEqual(one_day(book, 0, 0, poured, ()), (0, "tank"))

    def test_tank_on_the_next_day_with_what_was_left_in_it(self):
        book = made_book(9, 9, [(5, 2, ())], [(0, 0, 0, 3, 1), (0, 0, 0, 1, 0)])
        for poured, left in ((1, 0), (2, 1), (3, 2)):
            first = (0, 0, (poured,), ((0, 0, 3),))
            self.assertIsNone(fault(book, (first, (0, 0, (5 - left,), ()))))
            self.assertEqual(fault(book, (first, (0, 0, (6 - left,), ()))), (1, "tank"))


class Spans(unittest.TestCase):
    """Point 2.3: span, away, oil and dark."""

    def word(self, spans, wanted=1, lamps=((9, 9, ()), (9, 9, ())), length=6):
        told = one_day(made_book(0, 0, lamps, [(0, 0, 0, length, wanted)]), 0, 0, (0,) * len(lamps), spans)
        return told and told[1]

    def test_spans_that_keep_the_book(self):
        for spans in (((0, 0, 6),), ((1, 0, 6),), ((0, 0, 3), (1, 3, 6)), ((0, 5, 6), (1, 0, 5)),
                      ((0, 0, 1), (0, 2, 6), (1, 1, 2))):
            self.assertIsNone(self.word(spans))
        self.assertIsNone(self.word(((0, 0, 6), (1, 0, 6)), 2))
        self.assertIsNone(self.word(((0, 0, 1),), 1, length=1))

    def test_a_lamp_that_is_none_of_the_books(self):
        for lamp in (-1, -2, 2, 3, FAR, -FAR):
            self.assertEqual(self.word(((lamp, 0, 6),)), "span")

    def test_a_start_below_nought(self):
        for start in (-1, -FAR):
            self.assertEqual(self.word(((0, start, 6),)), "span")

    def test_an_end_above_the_length(self):
        for end in (7, FAR):
            self.assertEqual(self.word(((0, 0, end),)), "span")
        self.assertEqual(self.word(((0, 0, 6), (1, 6, 7))), "span")

    def test_an_end_not_above_its_start(self):
        for span in ((1, 3, 3), (1, 4, 3), (1, 0, 0), (1, 6, 6), (1, 6, 0), (1, 2, -1), (1, 2, -FAR)):
            self.assertEqual(self.word(((0, 0, 6), span)), "span")

    def test_spans_that_do_not_rise(self):
        self.assertEqual(self.word(((1, 0, 3), (0, 3, 6))), "span")
        self.assertEqual(self.word(((0, 3, 6), (0, 0, 3))), "span")
        self.assertEqual(self.word(((0, 0, 2), (0, 4, 6), (0, 2, 4))), "span")

    def test_spans_that_come_twice(self):
        self.assertEqual(self.word(((0, 0, 6), (0, 0, 6))), "span")
        self.assertEqual(self.word(((0, 0, 6), (0, 0, 6)), 2), "span")
        self.assertEqual(self.word(((0, 0, 3), (1, 3, 6), (1, 3, 6))), "span")

    def test_spans_of_one_lamp_with_a_tick_in_common(self):
        for spans in (((0, 0, 4), (0, 3, 6)), ((0, 0, 3), (0, 0, 6)), ((0, 0, 6), (0, 1, 2)),
                      ((0, 0, 6), (0, 1, 2), (0, 3, 4)), ((0, 0, 6), (1, 0, 4), (1, 3, 6))):
            self.assertEqual(self.word(spans), "span")
            self.assertEqual(self.word(spans, 2), "span")

    def test_spans_of_one_lamp_that_touch(self):
        self.assertIsNone(self.word(((0, 0, 3), (0, 3, 6))))
        self.assertIsNone(self.word(((1, 0, 1), (1, 1, 2), (1, 2, 6))))

    def test_spans_of_unlike_lamps_with_ticks_in_common(self):
        self.assertIsNone(self.word(((0, 0, 4), (0, 4, 6), (1, 0, 3), (1, 3, 6)), 2))

    def test_away(self):
        book = made_book(0, 0, [(9, 9, (0,)), (9, 9, (1,))], [(0, 0, 0, 2, 1), (0, 0, 0, 2, 1)])

        def rota(first, second):
            return ((0, 0, (0, 0), ((first, 0, 2),)), (0, 0, (0, 0), ((second, 0, 2),)))
        self.assertIsNone(fault(book, rota(1, 0)))
        self.assertEqual(fault(book, rota(0, 0)), (0, "away"))
        self.assertEqual(fault(book, rota(1, 1)), (1, "away"))

    def test_away_for_one_span_among_others(self):
        lamps = ((9, 9, ()), (9, 9, (0,)))
        self.assertIsNone(self.word(((0, 0, 6),), 1, lamps))
        self.assertEqual(self.word(((0, 0, 5), (1, 5, 6)), 1, lamps), "away")

    def test_a_lamp_that_is_away_may_be_poured_into(self):
        book = made_book(0, 9, [(9, 0, (0,))], [(0, 0, 0, 2, 0)])
        self.assertIsNone(one_day(book, 0, 0, (9,), ()))

    def test_oil(self):
        for oil in (6, 7):
            self.assertIsNone(self.word(((0, 0, 6),), 1, ((9, oil, ()), (9, 0, ()))))
        for oil in (5, 1, 0):
            self.assertEqual(self.word(((0, 0, 6),), 1, ((9, oil, ()), (9, 9, ()))), "oil")

    def test_oil_for_several_spans_of_one_lamp(self):
        spans = ((0, 0, 6), (1, 0, 2), (1, 3, 4), (1, 5, 6))
        self.assertEqual(self.word(spans, 1, ((9, 9, ()), (9, 3, ()))), "oil")
        self.assertEqual(self.word(spans, 1, ((9, 9, ()), (9, 4, ()))), "dark")

    def test_oil_with_what_is_poured_and_what_was_left(self):
        book = made_book(9, 9, [(9, 2, ())], [(0, 0, 0, 3, 1), (0, 0, 0, 3, 1)])
        night = ((0, 0, 3),)
        self.assertIsNone(fault(book, ((0, 0, (1,), night), (0, 0, (3,), night))))
        self.assertIsNone(fault(book, ((0, 0, (2,), night), (0, 0, (2,), night))))
        self.assertEqual(fault(book, ((0, 0, (0,), night), (0, 0, (3,), night))), (0, "oil"))
        self.assertEqual(fault(book, ((0, 0, (2,), night), (0, 0, (1,), night))), (1, "oil"))

    def test_dark_in_some_ticks_alone(self):
        for spans in (((0, 1, 6),), ((0, 0, 5),), ((0, 0, 3), (0, 4, 6)), ((0, 0, 2), (1, 3, 6)), ()):
            self.assertEqual(self.word(spans), "dark")

    def test_dark_with_too_many_lamps_in_some_ticks(self):
        for spans in (((0, 0, 6), (1, 0, 1)), ((0, 0, 6), (1, 5, 6)), ((0, 0, 6), (1, 2, 3)), ((0, 0, 4), (1, 3, 6)),
                      ((0, 0, 6), (1, 0, 6))):
            self.assertEqual(self.word(spans), "dark")

    def test_dark_with_as_many_ticks_as_needed_in_all(self):
        self.assertEqual(self.word(((0, 0, 3), (1, 0, 3))), "dark")
        self.assertEqual(self.word(((0, 0, 2), (0, 4, 6), (1, 1, 3))), "dark")

    def test_dark_with_too_few_lamps(self):
        self.assertEqual(self.word(((0, 0, 6),), 2), "dark")
        self.assertEqual(self.word(((0, 0, 6), (1, 0, 5)), 2), "dark")

    def test_a_night_in_which_nobody_is_wanted(self):
        self.assertIsNone(self.word((), 0))
        for spans in (((0, 0, 6),), ((0, 0, 1),), ((1, 5, 6),)):
            self.assertEqual(self.word(spans, 0), "dark")

    def test_long_nights(self):
        far = 10 ** 15
        lamps = ((far, far, ()), (far, far, ()))
        self.assertIsNone(self.word(((0, 0, far - 1), (1, far - 1, far)), 1, lamps, far))
        self.assertEqual(self.word(((0, 0, far - 1),), 1, lamps, far), "dark")
        self.assertEqual(self.word(((0, 0, far - 1), (1, far - 2, far)), 1, lamps, far), "dark")
        self.assertEqual(self.word(((0, 0, far + 1),), 1, lamps, far), "span")

    def test_many_spans(self):
        many = 20000
        spans = tuple((0, tick, tick + 1) for tick in range(0, many, 2))
        spans = spans + tuple((1, tick, tick + 1) for tick in range(1, many, 2))
        lamps = ((many, many, ()), (many, many, ()))
        self.assertIsNone(self.word(spans, 1, lamps, many))
        self.assertEqual(self.word(spans[:-1], 1, lamps, many), "dark")


class Order(unittest.TestCase):
    """Point 2.3: the first word of a day, the first day of a rota."""

    def test_the_first_word_of_several(self):
        book = made_book(0, 0, [(5, 2, ()), (5, 2, (0,))], [(3, 3, 1, 4, 1)])
        for lead in ((4, 4, (-1, 9), ((1, 0, 4), (1, 3, 4)), "boat"),
                     (-1, -1, (9, 9), ((2, 0, 4),), "boat"),
                     (3, 4, (-1, 9), ((1, 0, 4), (1, 3, 4)), "market"),
                     (3, 3, (-1, 9), ((1, 0, 4), (1, 3, 4)), "pour"),
                     (3, 3, (7, 0), ((1, 0, 4), (1, 3, 4)), "pour"),
                     (3, 3, (6, 0), ((1, 0, 4), (1, 3, 4)), "tank"),
                     (3, 3, (0, 4), ((-1, 0, 4), (1, 3, 4)), "tank"),
                     (3, 3, (0, 0), ((1, 0, 3), (1, 2, 3)), "span"),
                     (3, 3, (0, 0), ((1, 0, 3),), "away"),
                     (3, 3, (0, 0), ((0, 0, 3),), "oil"),
                     (3, 3, (1, 0), ((0, 0, 3),), "dark")):
            self.assertEqual(one_day(book, *lead[:4]), (0, lead[4]))
        self.assertIsNone(one_day(book, 3, 3, (2, 0), ((0, 0, 4),)))

    def test_the_first_day_of_several(self):
        book = made_book(9, 9, [(9, 9, ())], [(0, 0, 0, 1, 1)] * 3)
        good = (0, 0, (0,), ((0, 0, 1),))
        dark = (0, 0, (0,), ())
        boat = (1, 0, (0,), ((0, 0, 1),))
        self.assertEqual(fault(book, (dark, boat, boat)), (0, "dark"))
        self.assertEqual(fault(book, (good, dark, boat)), (1, "dark"))
        self.assertEqual(fault(book, (good, good, boat)), (2, "boat"))
        self.assertIsNone(fault(book, (good, good, good)))

    def test_sixteen_days_and_eight_lamps(self):
        lamps = [(16, 16, ())] * 8
        book = made_book(0, 0, lamps, [(0, 0, 0, 1, 8)] * 16)
        night = (0, 0, (0,) * 8, tuple((lamp, 0, 1) for lamp in range(8)))
        self.assertIsNone(fault(book, (night,) * 16))
        short = made_book(0, 0, lamps[:7] + [(16, 15, ())], [(0, 0, 0, 1, 8)] * 16)
        self.assertEqual(fault(short, (night,) * 16), (15, "oil"))


class CostAndBurnt(unittest.TestCase):
    """Points 2.4 and 2.5."""

    def test_cost(self):
        self.assertEqual(cost(BOOK, ROTA), 62)

    def test_cost_of_any_rota(self):
        far = 10 ** 60 - 1
        rota = ((far, -3, (-far, far), ((5, far, -far),)), (-far, 2, (far, far), ()))
        self.assertEqual(cost(BOOK, rota), -21 + 22)
        rota = ((0, far, (0, 0), ()), (0, -far, (0, 0), ()))
        self.assertEqual(cost(BOOK, rota), far * 7 - far * 11)

    def test_cost_at_no_price_and_at_the_greatest(self):
        book = made_book(0, 0, [(0, 0, ())], [(0, 0, 0, 1, 0), (0, 0, 10 ** 15, 1, 0)])
        self.assertEqual(cost(book, ((0, 9, (0,), ()), (0, 3, (0,), ()))), 3 * 10 ** 15)

    def test_burnt(self):
        self.assertEqual(burnt(BOOK, ROTA), (7, 4))

    def test_burnt_of_more_lamps_than_days_and_of_fewer(self):
        lamps = [(9, 9, ())] * 3
        book = made_book(0, 0, lamps, [(0, 0, 0, 4, 2)])
        self.assertEqual(burnt(book, ((0, 0, (0, 0, 0), ((0, 0, 4), (2, 0, 1), (2, 1, 4))),)), (4, 0, 4))
        book = made_book(0, 0, lamps[:1], [(0, 0, 0, 2, 1)] * 3)
        self.assertEqual(burnt(book, ((0, 0, (0,), ((0, 0, 2),)),) * 3), (6,))

    def test_burnt_of_rotas_with_other_faults(self):
        dark = (9, 9, (-1, -1), ())
        self.assertEqual(burnt(BOOK, (dark, dark)), (0, 0))
        away = (9, 9, (0, 0), ((1, 0, 1), (1, 2, 3)))
        self.assertEqual(burnt(BOOK, (ROTA[0], away)), (4, 6))
        self.assertEqual(burnt(BOOK, (dark, away)), (0, 2))

    def test_fault_of_far_numbers(self):
        far = 10 ** 60 - 1
        for turn, word in (((far, 0, (0, 0), ()), "boat"), ((-far, 0, (0, 0), ()), "boat"),
                           ((0, far, (0, 0), ()), "market"), ((0, 0, (far, -far), ()), "pour"),
                           ((0, 0, (far, far), ()), "pour"), ((0, 0, (0, 0), ((0, -far, far),)), "span"),
                           ((0, 0, (0, 0), ((far, 0, 1),)), "span"), ((0, 0, (0, 0), ((0, far, far + 1),)), "span")):
            self.assertEqual(fault(BOOK, (turn, ROTA[1])), (0, word))


class AgainstTickByTick(unittest.TestCase):
    """Points 2.2 and 2.3 at many small books and rotas, told alike by the plain walk of the tests."""

    def some_book(self, chance):
        days = chance.randint(1, 3)
        count = chance.randint(1, 3)
        lamps = []
        for lamp in range(count):
            tank = chance.randint(0, 6)
            away = tuple(day for day in range(days) if chance.random() < 0.15)
            lamps.append((tank, chance.randint(0, tank), away))
        rows = [(chance.randint(0, 5), chance.randint(0, 5), 1, chance.randint(1, 4), chance.randint(0, count))
                for day in range(days)]
        return made_book(chance.randint(0, 6), chance.randint(0, 9), lamps, rows)

    def some_spans(self, chance, count, length, wanted):
        # Whole columns of ticks, then spoilt now and then, so that rotas get past the first days.
        burns = [chance.sample(range(count), wanted) for tick in range(length)]
        spans = [(lamp, tick, tick + 1) for tick in range(length) for lamp in burns[tick]]
        if chance.random() < 0.15:
            spans.append((chance.randint(-1, count), chance.randint(-1, length), chance.randint(0, length + 1)))
        if chance.random() < 0.1 and spans:
            spans.pop(chance.randrange(len(spans)))
        return tuple(sorted(spans)) if chance.random() < 0.95 else tuple(spans)

    def some_turn(self, chance, book, day):
        boat, most, price, length, wanted = book[3][day]
        taken = boat if chance.random() < 0.9 else chance.randint(-1, boat + 1)
        bought = most if chance.random() < 0.9 else chance.randint(-1, most + 1)
        poured = tuple(max(-1, chance.randint(-4, 4)) if chance.random() < 0.1 else chance.randint(0, 2)
                       for lamp in book[2])
        return (taken, bought, poured, self.some_spans(chance, len(book[2]), length, wanted))

    def test_alike(self):
        chance = random.Random(2)
        seen = {}
        for again in range(6000):
            book = self.some_book(chance)
            rota = tuple(self.some_turn(chance, book, day) for day in range(len(book[3])))
            told = fault(book, rota)
            self.assertEqual(told, naive.fault(book, rota), (book, rota))
            self.assertEqual(keeps(book, rota), told is None)
            seen[told and told[1]] = seen.get(told and told[1], 0) + 1
        self.assertEqual(set(seen), set(naive.WORDS) | {None})
        self.assertGreater(min(seen.values()), 20, seen)
