import random
import unittest

from lamprota.books import made_book, need
from lamprota.bookweb import flow_by, web_of
from lamprota.cheapest import cheapest, cheapest_flow, flow_sum, worths_stand
from lamprota.telling import told
from lamprota.walk import cost, fault
from lamprota.webs import most_flow
from tests import naive_books, naive_webs

FAR = 10 ** 40
PRICE = 10 ** 15
NIGHT = 10 ** 15
MOST = 10 ** 30


def stand(web, flow, worths):
    """The words of point 7.1 on worths, one by one."""
    for (tail, head, bound, price), much in zip(web[1], flow):
        together = price + worths[tail] - worths[head]
        if much < bound and together < 0:
            return False
        if much > 0 and together > 0:
            return False
    return True


def steep_web(steps):
    """Each way found cheapest first blocks the one ahead of it, so there are about 2**steps cheapest ways in turn."""
    ties, bound, price = [(0, 1, 1, 0)], 1, 0
    for step in range(1, steps + 1):
        tail, head = 2 * step, 2 * step + 1
        ties += [(0, tail, bound, 0), (head, 1, bound, 0)]
        for other in range(1, step):
            ties += [(tail, 2 * other + 1, bound, price), (2 * other, head, bound, price)]
        bound, price = 2 * bound + step % 2, min(PRICE, 2 * price + 1)
    return (2 * steps + 2, tuple(ties))


class FlowSum(unittest.TestCase):
    """Point 7.1: flow_sum."""

    def test_plain(self):
        web = (3, ((0, 1, 5, 2), (1, 2, 6, 3), (0, 2, 9, 0), (0, 1, 5, 7)))
        self.assertEqual(flow_sum(web, (0, 0, 0, 0)), 0)
        self.assertEqual(flow_sum(web, (5, 6, 9, 1)), 35)
        self.assertEqual(flow_sum(web, (1, 0, 0, 0)), 2)
        self.assertEqual(flow_sum((2, ()), ()), 0)

    def test_numbers_that_are_no_flow_of_two_nodes(self):
        web = (4, ((0, 1, 5, 2), (2, 3, 6, 3), (3, 2, 9, 4)))
        self.assertEqual(flow_sum(web, (5, 1, 9)), 49)

    def test_far_numbers(self):
        web = (2, ((0, 1, FAR, PRICE),) * 2000)
        self.assertEqual(flow_sum(web, (FAR,) * 2000), 2000 * FAR * PRICE)


class WorthsStand(unittest.TestCase):
    """Point 7.1: worths_stand."""

    def test_one_tie_at_its_edges(self):
        for price in (0, 3, PRICE):
            web = (2, ((0, 1, 5, price),))
            for base in (0, 7, -10 ** 20):
                for above, standing in ((0, (0, 1, 4, 5)), (1, (0,)), (-1, (5,)), (FAR, (0,)), (-FAR, (5,))):
                    for much in (0, 1, 4, 5):
                        worths = (base + above, base + price)
                        self.assertIs(worths_stand(web, (much,), worths), much in standing)

    def test_a_tie_of_bound_nought_stands_with_any(self):
        web = (2, ((0, 1, 0, 3),))
        for above in (-FAR, -1, 0, 1, FAR):
            self.assertIs(worths_stand(web, (0,), (above, 3)), True)

    def test_every_tie_counts(self):
        web = (3, ((0, 1, 5, 2), (1, 2, 5, 2), (2, 0, 5, 2)))
        self.assertIs(worths_stand(web, (5, 3, 0), (0, 3, 5)), True)
        self.assertIs(worths_stand(web, (4, 3, 0), (0, 3, 5)), False)
        self.assertIs(worths_stand(web, (5, 3, 0), (0, 3, 6)), False)
        self.assertIs(worths_stand(web, (5, 3, 1), (0, 3, 5)), False)

    def test_all_small_ones(self):
        chance = random.Random(71)
        for again in range(100):
            web = naive_webs.some_web(chance, 3, 3, 2, 2)
            for flow in naive_webs.flows(web):
                worths = tuple(chance.randint(-2, 2) for node in range(3))
                self.assertIs(worths_stand(web, flow, worths), stand(web, flow, worths))

    def test_a_flow_with_worths_that_stand_has_the_least_sum(self):
        chance = random.Random(72)
        stood = 0
        for again in range(250):
            web = naive_webs.some_web(chance, 3, 4, 2, 2)
            least = naive_webs.least_sums(web, 0, 1)
            for flow in naive_webs.flows(web):
                much = naive_webs.amount(web, 0, 1, flow)
                worths = (0,) + tuple(chance.randint(-1, 3) for node in range(2))
                if much is not None and worths_stand(web, flow, worths):
                    self.assertEqual(flow_sum(web, flow), least[much])
                    stood += 1
        self.assertGreater(stood, 100)


class Answers(unittest.TestCase):
    def assertCheapest(self, web, first, last, much):
        """What is told is a flow of the amount and the sum, and has the least sum by worths that stand."""
        answer = cheapest_flow(web, first, last, much)
        self.assertTrue(type(answer) is tuple and len(answer) == 3)
        total, flow, worths = answer
        self.assertTrue(type(flow) is tuple and type(worths) is tuple)
        self.assertTrue(all(type(number) is int for number in (total,) + flow + worths))
        self.assertEqual((len(flow), len(worths)), (len(web[1]), web[0]))
        self.assertEqual(naive_webs.amount(web, first, last, flow), much)
        self.assertEqual(sum(tie[3] * here for tie, here in zip(web[1], flow)), total)
        self.assertTrue(stand(web, flow, worths))
        self.assertIs(worths_stand(web, flow, worths), True)
        return total


class CheapestFlow(Answers):
    """Point 7.1: cheapest_flow."""

    def test_the_cheap_way_first(self):
        web = (3, ((0, 1, 5, 7), (0, 2, 3, 1), (2, 1, 4, 2)))
        for much, total in ((0, 0), (1, 3), (3, 9), (4, 16), (8, 44)):
            self.assertEqual(self.assertCheapest(web, 0, 1, much), total)
        for much in (9, 10, 10 ** 42):
            self.assertIsNone(cheapest_flow(web, 0, 1, much))

    def test_the_cheap_way_must_give_way(self):
        # One measure goes 0 2 3 1 for 3; two of them can't both, so they go 0 2 1 and 0 3 1 for 22.
        web = (4, ((0, 2, 1, 1), (0, 3, 1, 10), (2, 3, 1, 1), (2, 1, 1, 10), (3, 1, 1, 1)))
        self.assertEqual(self.assertCheapest(web, 0, 1, 1), 3)
        self.assertEqual(self.assertCheapest(web, 0, 1, 2), 22)
        self.assertIsNone(cheapest_flow(web, 0, 1, 3))

    def test_the_amount_nought(self):
        chance = random.Random(73)
        for again in range(50):
            web = naive_webs.some_web(chance, 4, 8, 3, 3)
            self.assertEqual(self.assertCheapest(web, 0, 1, 0), 0)
        self.assertEqual(self.assertCheapest((2, ()), 0, 1, 0), 0)

    def test_none_without_ties(self):
        self.assertIsNone(cheapest_flow((2, ()), 0, 1, 1))
        self.assertIsNone(cheapest_flow((2, ((1, 0, 5, 0),)), 0, 1, 1))
        self.assertIsNone(cheapest_flow((2, ((0, 1, 0, 0),)), 0, 1, 1))

    def test_all_prices_nought(self):
        chance = random.Random(74)
        for again in range(50):
            web = naive_webs.some_web(chance, 5, 10, 5, 0)
            self.assertEqual(self.assertCheapest(web, 0, 1, most_flow(web, 0, 1)[0]), 0)

    def test_ties_that_lead_back(self):
        web = (3, ((0, 2, 4, 1), (2, 0, 4, 0), (2, 1, 3, 1), (1, 2, 9, 0), (1, 0, 9, 5)))
        for much in range(4):
            self.assertEqual(self.assertCheapest(web, 0, 1, much), 2 * much)
        self.assertIsNone(cheapest_flow(web, 0, 1, 4))

    def test_small_webs_gone_through(self):
        chance = random.Random(75)
        for again in range(250):
            many = chance.randint(2, 5)
            web = naive_webs.some_web(chance, many, chance.randint(1, 6), chance.choice((1, 2, 3)), chance.choice((1, 6)))
            first, last = chance.sample(range(many), 2)
            least = naive_webs.least_sums(web, first, last)
            for much in range(max(least) + 1):
                self.assertEqual(self.assertCheapest(web, first, last, much), least[much])
            self.assertIsNone(cheapest_flow(web, first, last, max(least) + 1))

    def test_middling_webs_for_each_amount(self):
        chance = random.Random(76)
        for again in range(40):
            many = chance.randint(3, 12)
            web = naive_webs.some_web(chance, many, 4 * many, 6, chance.choice((3, 50, PRICE)))
            most = most_flow(web, 0, 1)[0]
            for much in range(most + 1):
                self.assertCheapest(web, 0, 1, much)
            self.assertIsNone(cheapest_flow(web, 0, 1, most + 1))


class Great(Answers):
    """Point 4.1: webs at the bounds."""

    def assertAmounts(self, web, first, last):
        most = most_flow(web, first, last)[0]
        for much in (most, most // 2):
            self.assertCheapest(web, first, last, much)
        self.assertIsNone(cheapest_flow(web, first, last, most + 1))

    def test_far_bounds_and_prices_of_a_small_web(self):
        web = (4, ((0, 1, FAR, PRICE), (0, 2, FAR, 0), (1, 2, 1, 0), (2, 1, 1, PRICE), (1, 3, FAR, 0),
                   (2, 3, FAR, PRICE)))
        self.assertAmounts(web, 0, 3)

    def test_many_ties_between_two_nodes(self):
        ties = tuple((0, 1, FAR, price) for price in range(500)) + tuple((1, 0, FAR, price) for price in range(500))
        self.assertEqual(self.assertCheapest((2, ties), 0, 1, 100 * FAR), FAR * 4950)
        ties = tuple((0, 1, 10 ** 39, PRICE - place) for place in range(1999)) + ((0, 1, 10 ** 39, 0),)
        self.assertCheapest((2, ties), 0, 1, 10 ** 42)
        self.assertIsNone(cheapest_flow((2, ties[:999]), 0, 1, 10 ** 42))

    def test_long_rows(self):
        chance = random.Random(77)
        for reach in (1, 4, 60):
            self.assertAmounts(naive_webs.row_web(chance, 400, 2000, reach), 0, 399)

    def test_a_row_with_dear_ties(self):
        ties = [(node, node + 1, FAR, PRICE) for node in range(399)] + [(node + 1, node, FAR, 0) for node in range(399)]
        self.assertEqual(self.assertCheapest((400, tuple(ties)), 0, 399, FAR), 399 * FAR * PRICE)

    def test_many_nodes_and_ties_by_chance(self):
        chance = random.Random(78)
        for many in (2, 45, 400):
            self.assertAmounts(naive_webs.some_web(chance, many, 2000, FAR, PRICE), 0, many - 1)

    def test_webs_with_very_many_cheapest_ways_in_turn(self):
        for steps in (6, 12, 44):
            self.assertAmounts(steep_web(steps), 0, 1)


class Cheapest(unittest.TestCase):
    """Point 7.2."""

    def assertCheapest(self, book):
        """The tuple told is right by its own papers; gives back the cost."""
        answer = cheapest(book)
        self.assertTrue(type(answer) is tuple and len(answer) == 4)
        least, rota, flow, worths = answer
        web = naive_books.web_of(book)
        self.assertIsNone(fault(book, rota))
        self.assertEqual(cost(book, rota), least)
        self.assertEqual(naive_webs.amount(web, 0, 1, flow), need(book))
        self.assertEqual(sum(tie[3] * much for tie, much in zip(web[1], flow)), least)
        self.assertEqual((len(flow), len(worths)), (len(web[1]), web[0]))
        self.assertTrue(stand(web, flow, worths))
        self.assertTrue(type(flow) is tuple and type(worths) is tuple and type(rota) is tuple)
        return least

    def test_nothing_is_bought_that_need_not_be(self):
        book = made_book(9, 2, [(9, 1, ())], [(3, 9, 5, 6, 1)])
        self.assertEqual(self.assertCheapest(book), 0)
        book = made_book(9, 2, [(9, 1, ())], [(1, 9, 5, 6, 1)])
        self.assertEqual(self.assertCheapest(book), 10)

    def test_the_cheap_day_and_what_can_be_kept(self):
        days = [(0, 99, 2, 4, 1), (0, 99, 7, 4, 1), (0, 99, 5, 4, 1)]
        for keep, tank, least in ((0, 4, 56), (1, 4, 51), (0, 6, 46), (2, 6, 36), (8, 4, 24), (0, 12, 24)):
            self.assertEqual(self.assertCheapest(made_book(keep, 0, [(tank, 0, ())], days)), least)

    def test_none_where_there_is_no_rota(self):
        self.assertIsNone(cheapest(made_book(0, 0, [(9, 0, ())], [(2, 3, 1, 6, 1)])))
        self.assertIsNone(cheapest(made_book(0, 9, [(9, 0, (0,))], [(9, 9, 1, 6, 1)])))

    def test_a_need_of_nought(self):
        book = made_book(3, 3, [(4, 2, ())], [(5, 5, 5, 3, 0)] * 2)
        self.assertEqual(self.assertCheapest(book), 0)

    def test_small_books_gone_through(self):
        chance = random.Random(79)
        found = []
        for again in range(500):
            book = naive_books.some_book(chance, 2, 3, 5, 1)
            least = naive_books.least_cost(book)
            if least is None:
                self.assertIsNone(cheapest(book))
            else:
                self.assertEqual(self.assertCheapest(book), least)
            found.append(least)
        self.assertGreater(min(found.count(None), len([least for least in found if least])), 50)

    def test_no_dearer_than_other_rotas_and_flows(self):
        chance = random.Random(80)
        for again in range(300):
            book, rota = naive_books.some_kept(chance)
            least = self.assertCheapest(book)
            self.assertLessEqual(least, cost(book, rota))
            self.assertLessEqual(least, flow_sum(web_of(book), flow_by(book, rota)))
            self.assertLessEqual(least, cost(book, told(book)[1]))

    def test_great_books(self):
        lamps = [(MOST, MOST, ())] * 8
        self.assertEqual(self.assertCheapest(made_book(MOST, MOST, lamps, [(MOST, MOST, PRICE, NIGHT, 8)] * 16)), 0)
        lamps = [(MOST, 0, ())] * 8
        days = [(0, MOST, PRICE - day, NIGHT, 8) for day in range(16)]
        book = made_book(0, 0, lamps, days)
        self.assertEqual(self.assertCheapest(book), sum(8 * NIGHT * (PRICE - day) for day in range(16)))
        book = made_book(MOST, 0, lamps, [(0, MOST, PRICE - 15 + day, NIGHT, 8) for day in range(16)])
        self.assertEqual(self.assertCheapest(book), 128 * NIGHT * (PRICE - 15))

    def test_great_books_by_chance(self):
        chance = random.Random(81)
        for again in range(4):
            lamps = [(chance.randint(NIGHT, 4 * NIGHT), 0, naive_books.some_away(chance, 16, 0.1)) for lamp in range(8)]
            days = [(chance.randint(0, 2 * NIGHT), chance.randint(0, 9 * NIGHT), chance.randint(0, PRICE),
                     chance.randint(NIGHT // 2, NIGHT), chance.randint(0, 4)) for day in range(16)]
            book = made_book(chance.randint(0, 9 * NIGHT), 9 * NIGHT, lamps, days)
            if told(book)[0] == "rota":
                self.assertCheapest(book)
            else:
                self.assertIsNone(cheapest(book))


class Handed(unittest.TestCase):
    """Point 0.3."""

    def test_what_is_handed_in_stays_and_is_told_alike_again(self):
        chance = random.Random(82)
        for again in range(30):
            web = naive_webs.some_web(chance, 6, 14, 9, 9)
            book = naive_books.some_book(chance, 3, 3, 6, 6)
            before = repr((web, book))
            answers = [(cheapest_flow(web, 0, 1, 1), cheapest(book)) for twice in range(2)]
            self.assertEqual(answers[0], answers[1])
            if answers[0][0] is not None:
                total, flow, worths = answers[0][0]
                self.assertEqual([flow_sum(web, flow) for twice in range(2)], [total, total])
                self.assertEqual([worths_stand(web, flow, worths) for twice in range(2)], [True, True])
            self.assertEqual(repr((web, book)), before)
