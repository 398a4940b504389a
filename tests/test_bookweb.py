import random
import unittest

from lamprota.books import made_book, need
from lamprota.bookweb import flame_node, flow_by, night_node, rota_by, store_node, tank_node, web_of
from lamprota.laying import laid
from lamprota.walk import cost, fault
from lamprota.webs import most_flow
from tests import naive, naive_books, naive_webs

SEA, LIGHT = 0, 1
MOST = 10 ** 30


def ticks_of(book, turn):
    return tuple(sum(end - start for number, start, end in turn[3] if number == lamp) for lamp in range(len(book[2])))


def place_of(book, tail, head):
    """The place of the one tie between two nodes."""
    places = [place for place, tie in enumerate(web_of(book)[1]) if tie[:2] == (tail, head)]
    assert len(places) == 1
    return places[0]


def flow_with(book, much):
    """A flow told by a dict: for each tie (its four parts) what flows in it, nothing where none is told."""
    web = web_of(book)
    assert all(web[1].count(tie) == 1 for tie in much)
    return tuple(much.get(tie, 0) for tie in web[1])


def price_sum(book, flow):
    return sum(tie[3] * much for tie, much in zip(web_of(book)[1], flow))


class Nodes(unittest.TestCase):
    """Point 5.1."""

    def test_of_one_lamp(self):
        book = made_book(0, 0, [(0, 0, ())], [(0, 0, 0, 1, 0)] * 3)
        self.assertEqual([store_node(book, day) for day in range(3)], [2, 6, 10])
        self.assertEqual([tank_node(book, 0, day) for day in range(3)], [3, 7, 11])
        self.assertEqual([flame_node(book, 0, day) for day in range(3)], [4, 8, 12])
        self.assertEqual([night_node(book, day) for day in range(3)], [5, 9, 13])

    def test_of_three_lamps(self):
        book = made_book(0, 0, [(0, 0, ())] * 3, [(0, 0, 0, 1, 0)] * 2)
        self.assertEqual([store_node(book, day) for day in range(2)], [2, 10])
        self.assertEqual([[tank_node(book, lamp, day) for lamp in range(3)] for day in range(2)],
                         [[3, 5, 7], [11, 13, 15]])
        self.assertEqual([[flame_node(book, lamp, day) for lamp in range(3)] for day in range(2)],
                         [[4, 6, 8], [12, 14, 16]])
        self.assertEqual([night_node(book, day) for day in range(2)], [9, 17])

    def test_each_node_has_one_name(self):
        for lamps, days in ((1, 1), (1, 16), (8, 1), (3, 5), (8, 16)):
            book = made_book(0, 0, [(0, 0, ())] * lamps, [(0, 0, 0, 1, 0)] * days)
            nodes = [0, 1]
            for day in range(days):
                nodes += [store_node(book, day), night_node(book, day)]
                for lamp in range(lamps):
                    nodes += [tank_node(book, lamp, day), flame_node(book, lamp, day)]
            self.assertEqual(sorted(nodes), list(range(2 + days * (2 * lamps + 2))))
            self.assertEqual(web_of(book)[0], len(nodes))


class Web(unittest.TestCase):
    """Point 5.2."""

    def test_one_lamp_and_one_day(self):
        book = made_book(100, 20, [(9, 4, ())], [(11, 12, 13, 7, 1)])
        self.assertEqual(web_of(book), (6, (
            (0, 2, 11, 0), (0, 2, 12, 13), (0, 2, 20, 0), (0, 3, 4, 0),
            (2, 3, 7, 0), (3, 4, 9, 0), (4, 5, 7, 0), (5, 1, 7, 0))))

    def test_the_first_days_own_ties_stand_where_they_rise(self):
        book = made_book(100, 5, [(9, 4, ())], [(11, 3, 13, 7, 1)])
        self.assertEqual(web_of(book)[1][:4], ((0, 2, 3, 13), (0, 2, 5, 0), (0, 2, 11, 0), (0, 3, 4, 0)))

    def test_two_lamps_and_two_days(self):
        book = made_book(100, 20, [(9, 4, (1,)), (8, 0, (0,))], [(11, 12, 13, 7, 1), (21, 12, 23, 5, 2)])
        self.assertEqual(web_of(book), (14, (
            (0, 2, 11, 0), (0, 2, 12, 13), (0, 2, 20, 0), (0, 3, 4, 0), (0, 5, 0, 0),
            (0, 8, 12, 23), (0, 8, 21, 0),
            (2, 3, 17, 0), (2, 5, 17, 0), (2, 8, 100, 0),
            (3, 4, 9, 0), (4, 7, 7, 0), (4, 9, 17, 0),
            (5, 6, 8, 0), (6, 7, 0, 0), (6, 11, 17, 0),
            (7, 1, 7, 0),
            (8, 9, 17, 0), (8, 11, 17, 0),
            (9, 10, 9, 0), (10, 13, 0, 0),
            (11, 12, 8, 0), (12, 13, 5, 0),
            (13, 1, 10, 0))))

    def test_a_lamp_that_is_away_in_all_nights(self):
        book = made_book(1, 2, [(9, 4, (0, 1, 2)), (9, 4, ())], [(1, 2, 3, 4, 1)] * 3)
        for day in range(3):
            for lamp, bound in ((0, 0), (1, 4)):
                tie = (flame_node(book, lamp, day), night_node(book, day), bound, 0)
                self.assertEqual(web_of(book)[1].count(tie), 1)

    def test_ties_alike_all_stand(self):
        book = made_book(0, 3, [(0, 0, ())], [(3, 3, 0, 1, 0)])
        self.assertEqual(web_of(book)[1][:4], ((0, 2, 3, 0), (0, 2, 3, 0), (0, 2, 3, 0), (0, 3, 0, 0)))
        book = made_book(0, 0, [(0, 0, ())], [(0, 0, 0, 1, 0)] * 2)
        self.assertEqual(web_of(book)[1].count((0, 6, 0, 0)), 2)
        self.assertEqual(web_of(book)[1].count((0, 2, 0, 0)), 3)

    def test_books_by_chance(self):
        chance = random.Random(51)
        for again in range(300):
            book = naive_books.some_book(chance, 4, 5, 6, 6)
            self.assertEqual(web_of(book), naive_books.web_of(book))

    def test_greatest_book(self):
        book = made_book(MOST, MOST, [(MOST, MOST, ())] * 8, [(MOST, MOST, 10 ** 15, 10 ** 15, 8)] * 16)
        web = web_of(book)
        self.assertEqual(web, naive_books.web_of(book))
        self.assertEqual(web[0], 290)
        self.assertEqual(list(web[1]), sorted(web[1]))

    def test_kinds(self):
        web = web_of(made_book(1, 2, [(3, 1, ())] * 2, [(1, 2, 3, 4, 1)] * 2))
        self.assertTrue(type(web) is tuple and type(web[1]) is tuple)
        for tie in web[1]:
            self.assertTrue(type(tie) is tuple and len(tie) == 4 and all(type(part) is int for part in tie))


class Papers(unittest.TestCase):
    def assertRotaBy(self, book, flow):
        """A flow of the need tells a rota as the document promises."""
        self.assertEqual(naive_webs.amount(web_of(book), SEA, LIGHT, flow), need(book))
        rota = rota_by(book, flow)
        self.assertIs(type(rota), tuple)
        self.assertIsNone(fault(book, rota), (book, flow))
        self.assertLessEqual(cost(book, rota), price_sum(book, flow))
        for day, turn in enumerate(rota):
            self.assertTrue(type(turn) is tuple and type(turn[2]) is tuple and type(turn[3]) is tuple)
            for lamp, ticks in enumerate(ticks_of(book, turn)):
                place = place_of(book, flame_node(book, lamp, day), night_node(book, day))
                self.assertEqual(ticks, flow[place])
        return rota

    def assertFlowBy(self, book, rota):
        """A rota that keeps the book tells a flow as the document promises."""
        self.assertIsNone(fault(book, rota))
        flow = flow_by(book, rota)
        self.assertIs(type(flow), tuple)
        self.assertEqual(len(flow), len(web_of(book)[1]))
        self.assertEqual(naive_webs.amount(web_of(book), SEA, LIGHT, flow), need(book), (book, rota))
        self.assertLessEqual(price_sum(book, flow), cost(book, rota))
        return flow

    def assertThereAndBack(self, book, rota):
        flow = self.assertFlowBy(book, rota)
        again = self.assertRotaBy(book, flow)
        self.assertLessEqual(cost(book, again), cost(book, rota))
        self.assertFlowBy(book, again)


class RotaBy(Papers):
    """Point 5.3: a flow tells a rota."""

    def test_plain(self):
        book = made_book(9, 2, [(9, 1, ())], [(4, 5, 3, 6, 1)])
        flow = flow_with(book, {(0, 2, 2, 0): 2, (0, 2, 4, 0): 3, (0, 2, 5, 3): 1, (0, 3, 1, 0): 0, (2, 3, 6, 0): 6,
                                (3, 4, 9, 0): 6, (4, 5, 6, 0): 6, (5, 1, 6, 0): 6})
        self.assertEqual(self.assertRotaBy(book, flow), ((3, 1, (6,), ((0, 0, 6),)),))

    def test_a_full_tank_of_which_nothing_flows(self):
        # The whole night's oil flows from the store, but the tank is full of oil that does not flow.
        book = made_book(9, 9, [(6, 6, ())], [(0, 0, 0, 6, 1)])
        flow = flow_with(book, {(0, 2, 9, 0): 6, (2, 3, 6, 0): 6, (3, 4, 6, 0): 6, (4, 5, 6, 0): 6, (5, 1, 6, 0): 6})
        self.assertRotaBy(book, flow)

    def test_a_tank_half_full_of_which_some_flows(self):
        book = made_book(9, 9, [(6, 4, ())], [(0, 0, 0, 6, 1)])
        for from_tank in range(5):
            flow = flow_with(book, {(0, 2, 9, 0): 6 - from_tank, (0, 3, 4, 0): from_tank, (2, 3, 6, 0): 6 - from_tank,
                                    (3, 4, 6, 0): 6, (4, 5, 6, 0): 6, (5, 1, 6, 0): 6})
            self.assertRotaBy(book, flow)

    def test_oil_that_does_not_flow_stays_in_the_tank_over_nights(self):
        book = made_book(9, 9, [(3, 3, ())], [(0, 0, 0, 1, 1), (0, 0, 0, 2, 1), (0, 0, 0, 3, 1)])
        chance = random.Random(52)
        for again in range(60):
            self.assertRotaBy(book, naive_webs.some_flow(chance, web_of(book), SEA, LIGHT, 6))

    def test_of_the_greatest_flow(self):
        chance = random.Random(53)
        done = 0
        while done < 400:
            book = naive_books.some_book(chance, 3, 4, 8, 8)
            much, flow = most_flow(web_of(book), SEA, LIGHT)
            if much == need(book):
                self.assertRotaBy(book, flow)
                done += 1

    def test_of_flows_put_together_by_chance(self):
        chance = random.Random(54)
        done = 0
        while done < 400:
            book = naive_books.some_book(chance, 3, 4, 8, 8)
            flow = naive_webs.some_flow(chance, web_of(book), SEA, LIGHT, need(book))
            if flow is not None:
                self.assertRotaBy(book, flow)
                done += 1

    def test_ties_alike_with_flows_unlike(self):
        book = made_book(0, 3, [(9, 0, ())], [(3, 3, 0, 4, 1)])
        rest = {(2, 3, 4, 0): 4, (3, 4, 9, 0): 4, (4, 5, 4, 0): 4, (5, 1, 4, 0): 4}
        for three in ((3, 1, 0), (0, 3, 1), (1, 0, 3), (0, 1, 3), (2, 2, 0), (1, 1, 2)):
            self.assertRotaBy(book, three + flow_with(book, rest)[3:])

    def test_need_of_nought(self):
        book = made_book(3, 3, [(4, 2, ()), (2, 0, (0,))], [(5, 5, 5, 3, 0)] * 2)
        flow = (0,) * len(web_of(book)[1])
        rota = self.assertRotaBy(book, flow)
        self.assertEqual([turn[3] for turn in rota], [(), ()])

    def test_far_numbers(self):
        book = made_book(MOST, MOST, [(MOST, MOST, ())] * 8, [(MOST, MOST, 10 ** 15, 10 ** 15, 5)] * 16)
        much, flow = most_flow(web_of(book), SEA, LIGHT)
        self.assertRotaBy(book, flow)


class FlowBy(Papers):
    """Point 5.3: a rota tells a flow."""

    def test_plain(self):
        book = made_book(9, 2, [(9, 1, ())], [(4, 5, 3, 6, 1)])
        flow = self.assertFlowBy(book, ((3, 0, (5,), ((0, 0, 6),)),))
        self.assertEqual(flow, flow_with(book, {(0, 2, 2, 0): 2, (0, 2, 4, 0): 3, (0, 3, 1, 0): 1, (2, 3, 6, 0): 5,
                                                (3, 4, 9, 0): 6, (4, 5, 6, 0): 6, (5, 1, 6, 0): 6}))

    def test_two_days_and_two_lamps(self):
        book = made_book(1, 5, [(6, 2, ()), (4, 0, (1,))], [(4, 3, 7, 4, 2), (2, 5, 11, 3, 1)])
        self.assertThereAndBack(book, ((4, 1, (3, 4), laid(4, 2, (4, 4))), (2, 5, (3, 2), ((0, 0, 3),))))

    def test_oil_that_is_spilt(self):
        book = made_book(2, 9, [(9, 0, ())], [(7, 7, 5, 1, 1), (0, 0, 0, 3, 1)])
        self.assertThereAndBack(book, ((7, 7, (2,), ((0, 0, 1),)), (0, 0, (2,), ((0, 0, 3),))))

    def test_oil_that_is_poured_and_never_burnt(self):
        book = made_book(0, 9, [(9, 0, ()), (9, 9, (0, 1))], [(3, 3, 5, 1, 1), (0, 0, 0, 3, 1)])
        self.assertThereAndBack(book, ((3, 3, (9, 0), ((0, 0, 1),)), (0, 0, (0, 0), ((0, 0, 3),))))

    def test_oil_that_is_taken_and_bought_and_never_used(self):
        book = made_book(50, 0, [(9, 4, ())], [(3, 3, 5, 2, 1), (4, 4, 6, 2, 1)])
        rota = ((3, 3, (0,), ((0, 0, 2),)), (4, 4, (0,), ((0, 0, 2),)))
        self.assertThereAndBack(book, rota)
        self.assertEqual(price_sum(book, self.assertFlowBy(book, rota)), 0)

    def test_oil_poured_into_lamps_that_are_away(self):
        book = made_book(0, 8, [(8, 0, (0,)), (9, 1, ())], [(0, 0, 0, 1, 1), (0, 0, 0, 4, 2)])
        self.assertThereAndBack(book, ((0, 0, (4, 4), ((1, 0, 1),)), (0, 0, (0, 0), ((0, 0, 4), (1, 0, 4)))))

    def test_far_more_than_the_need_is_moved(self):
        book = made_book(MOST, MOST, [(MOST, 0, ())], [(MOST, MOST, 10 ** 15, 1, 1)] * 2)
        rota = ((MOST, MOST, (MOST,), ((0, 0, 1),)), (MOST, MOST, (1,), ((0, 0, 1),)))
        self.assertThereAndBack(book, rota)

    def test_need_of_nought(self):
        book = made_book(3, 3, [(4, 2, ())], [(5, 5, 5, 3, 0)] * 2)
        flow = self.assertFlowBy(book, ((5, 5, (2,), ()), (0, 1, (0,), ())))
        self.assertEqual(flow, (0,) * len(flow))

    def test_rotas_by_chance(self):
        chance = random.Random(55)
        for again in range(1500):
            book, rota = naive_books.some_kept(chance)
            self.assertThereAndBack(book, rota)

    def test_flow_there_and_back(self):
        chance = random.Random(56)
        done = 0
        while done < 200:
            book = naive_books.some_book(chance, 3, 4, 8, 8)
            flow = naive_webs.some_flow(chance, web_of(book), SEA, LIGHT, need(book))
            if flow is not None:
                again = self.assertFlowBy(book, rota_by(book, flow))
                self.assertLessEqual(price_sum(book, again), price_sum(book, flow))
                done += 1


class Handed(unittest.TestCase):
    """Point 0.3."""

    def test_what_is_handed_in_stays_and_is_told_alike_again(self):
        chance = random.Random(57)
        for again in range(30):
            book, rota = naive_books.some_kept(chance)
            self.assertIsNone(naive.fault(book, rota))
            flow = flow_by(book, rota)
            before = repr((book, rota, flow))
            told = [(web_of(book), flow_by(book, rota), rota_by(book, flow)) for twice in range(2)]
            self.assertEqual(told[0], told[1])
            self.assertEqual(repr((book, rota, flow)), before)
