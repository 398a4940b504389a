import itertools
import random
import unittest

from lamprota.webs import amount, is_side, least_side, most_flow, side_worth
from tests import naive_webs

FAR = 10 ** 40
# Two ties from 0 to 1 and one back, ties forth and back between 1 and 2, and a way round over 3.
WEB = (4, ((0, 1, 5, 2), (0, 1, 3, 0), (0, 2, 4, 1), (1, 0, 2, 0), (1, 2, 6, 7), (2, 1, 9, 0), (2, 3, 1, 0),
           (3, 1, 1, 4)))


class Amount(unittest.TestCase):
    """Point 4.2."""

    def test_of_several_ways(self):
        self.assertEqual(amount(WEB, 0, 1, (5, 0, 0, 0, 0, 0, 0, 0)), 5)
        self.assertEqual(amount(WEB, 0, 1, (5, 3, 4, 0, 0, 4, 0, 0)), 12)
        self.assertEqual(amount(WEB, 0, 1, (5, 3, 4, 0, 0, 3, 1, 1)), 12)
        self.assertEqual(amount(WEB, 0, 2, (4, 2, 4, 0, 6, 0, 0, 0)), 10)

    def test_of_ties_that_lead_back(self):
        self.assertEqual(amount(WEB, 0, 1, (5, 3, 4, 2, 0, 4, 0, 0)), 10)
        self.assertEqual(amount(WEB, 0, 1, (5, 0, 0, 2, 2, 2, 0, 0)), 3)
        self.assertEqual(amount(WEB, 0, 2, (2, 0, 0, 1, 2, 1, 0, 0)), 1)
        self.assertEqual(amount(WEB, 0, 1, (2, 0, 0, 2, 0, 0, 0, 0)), 0)

    def test_below_nought(self):
        self.assertEqual(amount(WEB, 1, 0, (5, 3, 4, 0, 0, 4, 0, 0)), -12)
        self.assertEqual(amount(WEB, 0, 1, (0, 0, 0, 2, 0, 0, 0, 0)), -2)
        self.assertEqual(amount(WEB, 1, 0, (0, 0, 0, 2, 0, 0, 0, 0)), 2)
        self.assertEqual(amount(WEB, 2, 1, (0, 0, 0, 0, 6, 5, 0, 0)), -1)

    def test_of_nothing(self):
        for first, last in itertools.permutations(range(4), 2):
            self.assertEqual(amount(WEB, first, last, (0,) * 8), 0)
        self.assertEqual(amount((2, ()), 0, 1, ()), 0)

    def test_a_ring_has_the_amount_nought(self):
        self.assertEqual(amount(WEB, 0, 3, (0, 0, 0, 0, 4, 4, 0, 0)), 0)
        self.assertEqual(amount(WEB, 0, 3, (0, 0, 0, 0, 4, 3, 1, 1)), 0)

    def test_none_below_nought_and_above_a_bound(self):
        for place, tie in enumerate(WEB[1]):
            for much in (-1, -FAR, tie[2] + 1, FAR):
                flow = tuple(much if other == place else 0 for other in range(8))
                for first, last in ((tie[0], tie[1]), (tie[1], tie[0])):
                    self.assertIsNone(amount(WEB, first, last, flow))

    def test_just_at_a_bound(self):
        for place, tie in enumerate(WEB[1]):
            flow = tuple(tie[2] if other == place else 0 for other in range(8))
            self.assertEqual(amount(WEB, tie[0], tie[1], flow), tie[2])
            self.assertEqual(amount(WEB, tie[1], tie[0], flow), -tie[2])

    def test_bounds_of_ties_between_the_same_two_are_not_shared(self):
        self.assertEqual(amount(WEB, 0, 1, (5, 3, 0, 0, 0, 0, 0, 0)), 8)
        self.assertIsNone(amount(WEB, 0, 1, (4, 4, 0, 0, 0, 0, 0, 0)))
        self.assertIsNone(amount(WEB, 0, 1, (6, 2, 0, 0, 0, 0, 0, 0)))

    def test_none_where_another_node_has_more_coming_in_than_going_out(self):
        self.assertIsNone(amount(WEB, 0, 1, (5, 3, 4, 0, 0, 3, 0, 0)))
        self.assertIsNone(amount(WEB, 0, 1, (0, 0, 1, 0, 0, 0, 1, 0)))
        self.assertIsNone(amount(WEB, 0, 2, (1, 0, 0, 0, 0, 0, 0, 0)))

    def test_none_where_another_node_has_less_coming_in_than_going_out(self):
        self.assertIsNone(amount(WEB, 0, 1, (5, 3, 4, 0, 0, 5, 0, 0)))
        self.assertIsNone(amount(WEB, 0, 1, (0, 0, 0, 0, 0, 0, 0, 1)))
        self.assertIsNone(amount(WEB, 2, 3, (1, 0, 0, 2, 0, 0, 0, 0)))

    def test_all_small_ones(self):
        chance = random.Random(41)
        for again in range(40):
            web = naive_webs.some_web(chance, chance.randint(2, 4), 4, 2, 0)
            first, last = chance.sample(range(web[0]), 2)
            for flow in itertools.product(range(-1, 4), repeat=4):
                self.assertEqual(amount(web, first, last, flow), naive_webs.amount(web, first, last, flow))

    def test_far_numbers(self):
        web = (3, ((0, 1, FAR, 0), (1, 2, FAR, 0), (0, 1, FAR, 0), (1, 2, FAR, 0)))
        self.assertEqual(amount(web, 0, 2, (FAR, FAR - 1, FAR - 1, FAR)), 2 * FAR - 1)
        self.assertIsNone(amount(web, 0, 2, (FAR, FAR, FAR - 1, FAR)))
        self.assertIsNone(amount(web, 0, 2, (FAR + 1, FAR, FAR - 1, FAR)))


class Sides(unittest.TestCase):
    """Point 4.3: side_worth and is_side."""

    def test_worth(self):
        self.assertEqual(side_worth(WEB, (0,)), 12)
        self.assertEqual(side_worth(WEB, (1,)), 8)
        self.assertEqual(side_worth(WEB, (2,)), 10)
        self.assertEqual(side_worth(WEB, (0, 2)), 18)
        self.assertEqual(side_worth(WEB, (0, 2, 3)), 18)
        self.assertEqual(side_worth(WEB, (0, 1)), 10)

    def test_worth_of_no_node_and_of_all(self):
        self.assertEqual(side_worth(WEB, ()), 0)
        self.assertEqual(side_worth(WEB, (0, 1, 2, 3)), 0)

    def test_worth_of_tuples_that_are_no_sides(self):
        self.assertEqual(side_worth(WEB, (2, 0)), 18)
        self.assertEqual(side_worth(WEB, (2, 0, 2, 2)), 18)
        self.assertEqual(side_worth(WEB, (3, 3)), 1)

    def test_worth_of_all_tuples_of_nodes(self):
        chance = random.Random(42)
        for again in range(60):
            web = naive_webs.some_web(chance, 4, chance.randint(0, 9), 9, 0)
            for side in itertools.product(range(4), repeat=chance.randint(0, 4)):
                self.assertEqual(side_worth(web, side), naive_webs.worth(web, side))

    def test_is_a_side(self):
        for side in ((0,), (0, 2), (0, 3), (0, 2, 3)):
            self.assertIs(is_side(WEB, 0, 1, side), True)
        for side in ((3,), (1, 3), (2, 3), (1, 2, 3)):
            self.assertIs(is_side(WEB, 3, 0, side), True)

    def test_not_rising(self):
        for side in ((2, 0), (0, 3, 2), (3, 0, 2), (3, 2, 0)):
            self.assertIs(is_side(WEB, 0, 1, side), False)

    def test_a_node_twice(self):
        for side in ((0, 0), (0, 2, 2), (0, 0, 2), (0, 2, 0)):
            self.assertIs(is_side(WEB, 0, 1, side), False)

    def test_numbers_that_are_no_nodes(self):
        for side in ((-1, 0), (0, 4), (0, 2, 3, 4), (-1, 0, 2), (-FAR, 0), (0, FAR), (-4, 0), (-4,), (4,)):
            self.assertIs(is_side(WEB, 0, 1, side), False)

    def test_the_first_node_lacks(self):
        for side in ((), (2,), (3,), (2, 3)):
            self.assertIs(is_side(WEB, 0, 1, side), False)

    def test_the_second_node_is_in_it(self):
        for side in ((0, 1), (0, 1, 2), (0, 1, 2, 3), (1,), (1, 2)):
            self.assertIs(is_side(WEB, 0, 1, side), False)

    def test_all_tuples(self):
        for many, first, last in ((2, 0, 1), (3, 2, 0), (4, 1, 2)):
            web = (many, ())
            sides = set(naive_webs.sides(web, first, last))
            for length in range(5):
                for side in itertools.product(range(-1, many + 1), repeat=length):
                    self.assertIs(is_side(web, first, last, side), side in sides)


class Answers(unittest.TestCase):
    def assertMost(self, web, first, last):
        """What is told is a flow, a side, and each shows that the other one can't be bettered."""
        told = most_flow(web, first, last)
        self.assertIs(type(told), tuple)
        much, flow = told
        self.assertIs(type(flow), tuple)
        self.assertEqual(len(flow), len(web[1]))
        self.assertTrue(all(type(number) is int for number in flow + (much,)))
        self.assertEqual(naive_webs.amount(web, first, last, flow), much)
        side = least_side(web, first, last)
        self.assertIs(type(side), tuple)
        self.assertTrue(is_side(web, first, last, side))
        self.assertEqual(naive_webs.worth(web, side), much)
        return much, side


class Most(Answers):
    """Point 4.3: most_flow and least_side."""

    def test_plain_ones(self):
        self.assertEqual(self.assertMost(WEB, 0, 1), (12, (0,)))
        self.assertEqual(self.assertMost(WEB, 0, 2), (10, (0, 1)))
        self.assertEqual(self.assertMost(WEB, 0, 3), (1, (0, 1, 2)))
        self.assertEqual(self.assertMost(WEB, 3, 0), (1, (3,)))
        self.assertEqual(self.assertMost(WEB, 1, 0), (2, (1, 2, 3)))

    def test_flow_has_to_be_led_back(self):
        # The shortest way, over 1 and 2, must give way to two longer ones.
        web = (6, ((0, 1, 1, 0), (0, 3, 1, 0), (1, 2, 1, 0), (3, 2, 1, 0), (1, 4, 1, 0), (4, 5, 1, 0), (2, 5, 1, 0)))
        self.assertEqual(self.assertMost(web, 0, 5), (2, (0,)))

    def test_nothing_can_flow(self):
        self.assertEqual(most_flow((2, ()), 0, 1), (0, ()))
        self.assertEqual(least_side((2, ()), 0, 1), (0,))
        web = (5, ((0, 2, 5, 0), (2, 3, 0, 0), (3, 1, 5, 0), (1, 4, 3, 0), (4, 0, 3, 0)))
        self.assertEqual(self.assertMost(web, 0, 1), (0, (0, 2)))
        self.assertEqual(self.assertMost((3, ((1, 0, 5, 0),)), 0, 1), (0, (0,)))

    def test_several_sides_of_the_least_worth(self):
        # Each tie of a row is as narrow as the others: the least side has the first node alone.
        web = (5, tuple((node, node + 1, 7, 0) for node in range(4)))
        self.assertEqual(self.assertMost(web, 0, 4), (7, (0,)))
        web = (5, ((0, 1, 9, 0), (1, 2, 7, 0), (2, 3, 7, 0), (3, 4, 8, 0)))
        self.assertEqual(self.assertMost(web, 0, 4), (7, (0, 1)))

    def test_nodes_that_only_a_tie_back_joins(self):
        web = (4, ((0, 1, 3, 0), (2, 0, 5, 0), (1, 3, 9, 0), (3, 2, 4, 0)))
        self.assertEqual(self.assertMost(web, 0, 1), (3, (0,)))
        self.assertEqual(self.assertMost(web, 1, 0), (4, (1, 3)))

    def test_small_webs_by_all_sides(self):
        chance = random.Random(43)
        for again in range(700):
            many = chance.randint(2, 7)
            web = naive_webs.some_web(chance, many, chance.randint(0, 3 * many), chance.choice((1, 3, 20)), 5)
            first, last = chance.sample(range(many), 2)
            much, side = self.assertMost(web, first, last)
            self.assertEqual(much, min(naive_webs.worth(web, other) for other in naive_webs.sides(web, first, last)))
            self.assertEqual(side, naive_webs.least_side(web, first, last))

    def test_no_flow_of_small_webs_is_greater(self):
        chance = random.Random(44)
        for again in range(60):
            web = naive_webs.some_web(chance, chance.randint(2, 4), 5, 2, 5)
            first, last = chance.sample(range(web[0]), 2)
            self.assertEqual(most_flow(web, first, last)[0], max(naive_webs.least_sums(web, first, last)))


class Great(Answers):
    """Point 4.1: webs at the bounds."""

    def test_far_bounds_of_a_small_web(self):
        # By ways of one measure each there would be no end of it.
        web = (4, ((0, 1, FAR, 0), (0, 2, FAR, 0), (1, 2, 1, 0), (2, 1, 1, 0), (1, 3, FAR, 0), (2, 3, FAR, 0)))
        self.assertEqual(self.assertMost(web, 0, 3), (2 * FAR, (0,)))

    def test_many_ties_between_two_nodes(self):
        web = (2, tuple((place % 2, 1 - place % 2, FAR, 10 ** 15) for place in range(2000)))
        self.assertEqual(self.assertMost(web, 0, 1), (1000 * FAR, (0,)))

    def test_long_rows(self):
        chance = random.Random(45)
        for reach in (1, 2, 5, 40):
            web = naive_webs.row_web(chance, 400, 2000, reach)
            for first, last in ((0, 399), (399, 0), (100, 300), (17, 16)):
                self.assertMost(web, first, last)

    def test_a_row_of_which_each_tie_but_one_is_wide(self):
        for narrow in (0, 200, 398):
            ties = [(node, node + 1, FAR - (node == narrow), 0) for node in range(399)]
            back = [(node + 1, node, FAR, 0) for node in range(399)]
            self.assertEqual(self.assertMost((400, tuple(back + ties)), 0, 399),
                             (FAR - 1, tuple(range(narrow + 1))))

    def test_many_nodes_and_ties_by_chance(self):
        chance = random.Random(46)
        for many in (2, 10, 45, 150, 400):
            for again in range(3):
                web = naive_webs.some_web(chance, many, 2000, FAR, 10 ** 15)
                self.assertMost(web, 0, many - 1)

    def test_a_grid(self):
        chance = random.Random(47)
        wide, ties = 19, []
        for row, column in itertools.product(range(wide), repeat=2):
            for other_row, other_column in ((row + 1, column), (row, column + 1), (row - 1, column)):
                if 0 <= other_row < wide and other_column < wide:
                    ties.append((row * wide + column, other_row * wide + other_column, chance.randint(0, FAR), 0))
        for row in range(wide):
            ties.append((wide * wide, row * wide, FAR, 0))
            ties.append((row * wide + wide - 1, wide * wide + 1, FAR, 0))
        self.assertMost((wide * wide + 2, tuple(ties)), wide * wide, wide * wide + 1)

    def test_a_bit_beyond_the_bounds(self):
        chance = random.Random(48)
        web = naive_webs.row_web(chance, 420, 2100, 3)
        self.assertMost((420, web[1] + ((0, 419, 10 ** 41, 10 ** 16),)), 0, 419)


class Handed(unittest.TestCase):
    """Point 0.3."""

    def test_what_is_handed_in_stays_and_is_told_alike_again(self):
        chance = random.Random(49)
        for again in range(30):
            web = naive_webs.some_web(chance, 6, 14, 9, 9)
            before = repr(web)
            told = [(most_flow(web, 0, 5), least_side(web, 0, 5)) for twice in range(2)]
            self.assertEqual(told[0], told[1])
            flow, side = told[0][0][1], told[0][1]
            asked = [(amount(web, 0, 5, flow), side_worth(web, side), is_side(web, 0, 5, side)) for twice in range(2)]
            self.assertEqual(asked[0], asked[1])
            self.assertEqual(repr(web), before)
