"""Each call on ordinary nets, with answers worked out by hand."""

import unittest

from tests.helper import CLEAR, MONEY, RANGE, WELFARE, amend, ask, buy, last, line, opening, rooms, sell, zone

# Zone 0 sells cheaply, zone 2 buys dearly; two lines join 0 and 1 (the second one against the first), one joins 1
# and 2. The lines of 0 and 1 carry 7 together, the line to 2 has room for 20.
CHAIN = [opening(-50, 100, 3), line(0, 1, 4, 0), line(1, 0, 9, 3), line(1, 2, 20, 20),
         sell(0, -10, 30), sell(1, 40, 10), buy(2, 60, 12), buy(1, 25, 2), buy(0, -20, 5)]

# Lines in a ring; only zone 0 sells and only zone 2 buys, so there are two ways from seller to buyer.
RING = [opening(0, 50, 3), line(0, 1, 5, 5), line(1, 2, 5, 5), line(2, 0, 5, 5), sell(0, 10, 20), buy(2, 30, 8)]


class OpenTest(unittest.TestCase):
    def test_open_answers_0_alone(self):
        self.assertEqual(ask(opening(0, 0, 1), opening(-5, 9, 6)), [[0], [0]])

    def test_open_makes_bounds_and_zones(self):
        self.assertEqual(last(opening(-5, 10, 2), RANGE), [0, 2, -5, -5, 2, 10, 10])

    def test_open_over_an_old_net_leaves_nothing_of_it(self):
        told = ask(*CHAIN, opening(1, 4, 2), CLEAR, RANGE, MONEY, line(1, 0, 3, 3), sell(1, 2, 1))
        self.assertEqual(told[len(CHAIN):], [[0], [0, 2, 2, 2, 0, 0], [0, 2, 1, 1, 2, 4, 4], [0, 0, 0, 0], [0, 0],
                                             [0, 0]])


class LineAndOrderTest(unittest.TestCase):
    def test_lines_and_orders_are_numbered_as_they_come(self):
        self.assertEqual(ask(*CHAIN), [[0], [0, 0], [0, 1], [0, 2], [0, 0], [0, 1], [0, 2], [0, 3], [0, 4]])

    def test_room_back_carries_from_second_to_first(self):
        net = [opening(0, 100, 2), line(0, 1, 0, 6), sell(1, 10, 9), buy(0, 50, 9)]
        self.assertEqual(last(*net, CLEAR), [0, 2, 50, 10, 2, 6, 6, 1, -6])
        self.assertEqual(last(*net, MONEY), [0, 300, 60, 1, 240])


class ChangeTest(unittest.TestCase):
    def test_rooms_changes_both_rooms_of_the_line_named(self):
        self.assertEqual(ask(*RING, rooms(2, 0, 0), CLEAR)[-2:], [[0], [0, 3, 10, 20, 30, 2, 5, 5, 3, 5, 5, 0]])
        self.assertEqual(last(*RING, rooms(2, 0, 6), CLEAR), [0, 3, 10, 10, 10, 2, 8, 8, 3, 2, 2, -6])

    def test_amend_changes_the_amount_of_the_order_named(self):
        told = ask(*RING, amend(1, 3), CLEAR, amend(1, 0), CLEAR, amend(1, 9), CLEAR)[len(RING):]
        self.assertEqual(told, [[0], [0, 3, 10, 10, 10, 2, 3, 3, 3, 0, 0, -3],
                                [0], [0, 3, 5, 5, 5, 2, 0, 0, 3, 0, 0, 0],
                                [0], [0, 3, 10, 10, 10, 2, 9, 9, 3, 4, 4, -5]])

    def test_an_order_keeps_its_number(self):
        net = [opening(0, 9, 1), sell(0, 2, 4), sell(0, 2, 4), buy(0, 5, 6)]
        self.assertEqual(last(*net, CLEAR), [0, 1, 2, 3, 4, 2, 6, 0])
        self.assertEqual(last(*net, amend(0, 0), amend(0, 5), CLEAR), [0, 1, 2, 3, 5, 1, 6, 0])


class ClearTest(unittest.TestCase):
    def test_chain(self):
        self.assertEqual(last(*CHAIN, CLEAR), [0, 3, -10, 40, 40, 5, 7, 5, 12, 0, 0, 3, 4, -3, 12])

    def test_ring_line_0_is_nearest_to_0_first(self):
        self.assertEqual(last(*RING, CLEAR), [0, 3, 10, 10, 10, 2, 8, 8, 3, 3, 3, -5])

    def test_equal_orders_go_by_number_across_zones(self):
        lines = [opening(0, 9, 2), line(0, 1, 9, 9)]
        first = last(*lines, sell(0, 3, 5), sell(1, 3, 5), buy(0, 7, 6), CLEAR)
        second = last(*lines, sell(1, 3, 5), sell(0, 3, 5), buy(0, 7, 6), CLEAR)
        self.assertEqual(first, [0, 2, 3, 3, 3, 5, 1, 6, 1, -1])
        self.assertEqual(second, [0, 2, 3, 3, 3, 5, 1, 6, 1, -5])

    def test_trades_without_welfare_are_made_as_great_as_can_be(self):
        net = [opening(0, 9, 1), buy(0, 4, 3), sell(0, 4, 8)]
        self.assertEqual(last(*net, CLEAR), [0, 1, 4, 2, 3, 3, 0])

    def test_order_0_goes_ahead_of_many_others(self):
        net = [opening(0, 9, 1), buy(0, 4, 1), buy(0, 4, 9), sell(0, 4, 4)]
        self.assertEqual(last(*net, CLEAR), [0, 1, 4, 3, 1, 3, 4, 0])

    def test_several_lines_between_two_zones_go_by_number(self):
        net = [opening(0, 9, 2), line(0, 1, 4, 4), line(1, 0, 4, 4), line(0, 1, 4, 4), sell(0, 2, 6), buy(1, 5, 6)]
        self.assertEqual(last(*net, CLEAR), [0, 2, 3, 3, 2, 6, 6, 3, 0, -2, 4])

    def test_bounds_below_0(self):
        net = [opening(-90, -30, 1), sell(0, -70, 4), buy(0, -41, 4)]
        self.assertEqual(last(*net, CLEAR), [0, 1, -56, 2, 4, 4, 0])
        self.assertEqual(last(*net, RANGE), [0, 1, -70, 1, -41])
        self.assertEqual(last(*net, MONEY), [0, -224, -224, 0])
        self.assertEqual(last(*net, WELFARE), [0, 116, 60, 56, 0])


class RangeTest(unittest.TestCase):
    def test_chain(self):
        self.assertEqual(last(*CHAIN, RANGE), [0, 3, -10, 40, 40, 3, -10, 40, 40])

    def test_prices_reach_along_lines_that_have_room(self):
        net = [opening(0, 100, 3), line(0, 1, 2, 0), line(1, 2, 0, 0), sell(0, 20, 2), buy(1, 60, 5), sell(2, 33, 1)]
        self.assertEqual(last(*net, RANGE), [0, 3, 20, 60, 0, 3, 60, 60, 33])
        self.assertEqual(last(*net, CLEAR), [0, 3, 40, 60, 16, 3, 2, 2, 0, 2, 2, 0])


class ZoneTest(unittest.TestCase):
    def test_chain(self):
        told = ask(*CHAIN, zone(0), zone(1), zone(2))[-3:]
        self.assertEqual(told, [[0, -10, 7, 0, 7], [0, 40, 5, 0, 5], [0, 40, 0, 12, -12]])

    def test_a_zone_that_sells_and_buys(self):
        net = [opening(0, 9, 2), line(0, 1, 2, 0), sell(0, 1, 5), sell(0, 2, 5), buy(0, 8, 3), buy(0, 9, 1),
               buy(1, 7, 9)]
        self.assertEqual(last(*net, zone(0)), [0, 2, 6, 4, 2])
        self.assertEqual(last(*net, zone(1)), [0, 7, 0, 2, -2])


class MoneyAndWelfareTest(unittest.TestCase):
    def test_chain_money(self):
        self.assertEqual(last(*CHAIN, MONEY), [0, 480, 130, 3, 200, 150, 0])

    def test_chain_welfare(self):
        self.assertEqual(last(*CHAIN, WELFARE), [0, 590, 240, 0, 350])

    def test_both_surpluses(self):
        net = [opening(0, 100, 1), sell(0, 10, 4), sell(0, 30, 6), buy(0, 80, 5), buy(0, 50, 1), buy(0, 30, 9)]
        self.assertEqual(last(*net, MONEY), [0, 300, 300, 0])
        self.assertEqual(last(*net, WELFARE), [0, 350, 270, 80, 0])

    def test_welfare_is_the_sum_of_surpluses_and_rents(self):
        for net in (CHAIN, RING):
            told = last(*net, WELFARE)
            self.assertEqual(told[1], told[2] + told[3] + told[4])


class OnlyChangesChangeTest(unittest.TestCase):
    def test_asking_leaves_the_net_as_it_was(self):
        asked = [CLEAR, RANGE, zone(0), zone(2), MONEY, WELFARE]
        told = ask(*CHAIN, *asked, *asked)[len(CHAIN):]
        self.assertEqual(told[:len(asked)], told[len(asked):])


if __name__ == "__main__":
    unittest.main()
