"""The calls that ask of the outcome, of its worth and of shortages, on small nets with answers worked out by hand."""

import unittest

from tests.helper import (AREAS, CLEAR, RANGE, STATE, AskedTest, amend, ask, buy, check, last, line, lineworth, net_at,
                          opening, rooms, sell, shortage, supporting, tight, unit, worth)

MILLION = 1000000
BILLION = 1000000000

# Zone 0 sells cheaply, zone 2 buys dearly; two lines join 0 and 1 (the second one against the first), one joins 1
# and 2. The prices are -10, 40, 40; the shares 7, 5, 12, 0, 0; the flows 4, -3, 12; the welfare is 590.
CHAIN = [opening(-50, 100, 3), line(0, 1, 4, 0), line(1, 0, 9, 3), line(1, 2, 20, 20),
         sell(0, -10, 30), sell(1, 40, 10), buy(2, 60, 12), buy(1, 25, 2), buy(0, -20, 5)]

# The prices are 10, 10, 10; the shares 8, 8; the flows 3, 3, -5; the welfare is 160.
RING = [opening(0, 50, 3), line(0, 1, 5, 5), line(1, 2, 5, 5), line(2, 0, 5, 5), sell(0, 10, 20), buy(2, 30, 8)]

# The price is 30; the welfare is 350.
ONE_ZONE = [opening(0, 100, 1), sell(0, 10, 4), sell(0, 30, 6), buy(0, 80, 5), buy(0, 50, 1), buy(0, 30, 9)]


class SupportsTest(AskedTest):
    def test_one_list_of_prices_alone(self):
        wrong = ([-11, 40, 40], [-9, 40, 40], [-10, 39, 40], [-10, 41, 40], [-10, 40, 39], [-10, 40, 41],
                 [-10, 41, 41], [-10, 39, 39], [40, 40, 40], [-10, -10, -10])
        self.hold(CHAIN, (supporting([-10, 40, 40]), [1]), *[(supporting(prices), [0]) for prices in wrong])

    def test_shares_between_their_ends_leave_one_price(self):
        self.hold([opening(0, 9, 1), sell(0, 4, 3), buy(0, 6, 2)],
                  *[(supporting([price]), [int(price == 4)]) for price in range(10)])
        self.hold([opening(0, 9, 1), sell(0, 4, 2), buy(0, 6, 3)],
                  *[(supporting([price]), [int(price == 6)]) for price in range(10)])

    def test_whole_shares_leave_the_prices_between_the_orders(self):
        self.hold([opening(0, 9, 1), sell(0, 4, 2), buy(0, 6, 2)],
                  *[(supporting([price]), [int(4 <= price <= 6)]) for price in range(10)])

    def test_shares_of_0_leave_the_prices_on_the_other_side(self):
        self.hold([opening(0, 9, 1), sell(0, 4, 2)], *[(supporting([price]), [int(price <= 4)]) for price in range(10)])
        self.hold([opening(0, 9, 1), buy(0, 4, 2)], *[(supporting([price]), [int(price >= 4)]) for price in range(10)])

    def test_a_full_line_lets_its_second_zone_be_dearer(self):
        net = [opening(0, 9, 2), line(0, 1, 3, 0), sell(0, 2, 3), buy(1, 7, 3)]
        right = ([2, 2], [2, 7], [7, 7], [3, 5])
        wrong = ([5, 3], [1, 7], [2, 8], [8, 8], [0, 0], [7, 2])
        self.hold(net, *[(supporting(prices), [1]) for prices in right],
                  *[(supporting(prices), [0]) for prices in wrong])

    def test_a_line_that_is_full_the_other_way(self):
        net = [opening(0, 9, 2), line(0, 1, 0, 3), sell(1, 2, 3), buy(0, 7, 3)]
        self.hold(net, (supporting([7, 2]), [1]), (supporting([5, 5]), [1]), (supporting([4, 5]), [0]))

    def test_a_line_that_carries_nothing(self):
        for forth, back, first_dearer, second_dearer in ((1, 1, 0, 0), (1, 0, 1, 0), (0, 1, 0, 1), (0, 0, 1, 1)):
            self.hold([opening(0, 9, 2), line(0, 1, forth, back)], (supporting([4, 4]), [1]),
                      (supporting([5, 4]), [first_dearer]), (supporting([4, 5]), [second_dearer]))

    def test_prices_outside_the_bounds_are_no_refusal(self):
        net = [opening(-3, 5, 2)]
        self.hold(net, (supporting([-3, 5]), [1]), (supporting([5, -3]), [1]), (supporting([-4, 5]), [0]),
                  (supporting([-3, 6]), [0]), (supporting([6, -3]), [0]), (supporting([0, -4]), [0]),
                  (supporting([MILLION, 0]), [0]), (supporting([0, -MILLION]), [0]))

    def test_an_amount_of_0_hinders_no_price(self):
        self.hold([opening(0, 9, 1), sell(0, 4, 2), amend(0, 0)], (supporting([0]), [1]), (supporting([9]), [1]))


class CheckTest(AskedTest):
    def test_the_outcome(self):
        self.hold(CHAIN, (check([7, 5, 12, 0, 0], [4, -3, 12]), [0, 0]))
        self.hold(RING, (check([8, 8], [3, 3, -5]), [0, 0]))
        self.hold([opening(0, 9, 2)], (check([], []), [0, 0]))

    def test_as_much_welfare_as_the_outcome(self):
        self.hold(RING, (check([8, 8], [4, 4, -4]), [0, 0]), (check([8, 8], [5, 5, -3]), [0, 0]))
        self.hold([opening(0, 9, 1), sell(0, 3, 5), sell(0, 3, 5), buy(0, 8, 7)], (check([2, 5, 7], []), [0, 0]))
        self.hold([opening(0, 9, 1), sell(0, 3, 5), buy(0, 3, 7)], (check([0, 0], []), [0, 0]))

    def test_shares_out_of_bounds(self):
        self.hold(CHAIN, (check([-1, 5, 12, 0, 0], [4, -3, 12]), [1, 0]),
                  (check([31, 5, 12, 0, 0], [4, -3, 12]), [1, 0]), (check([7, 11, 12, 0, 0], [4, -3, 12]), [1, 1]),
                  (check([7, 5, 12, 0, -1], [4, -3, 12]), [1, 4]), (check([7, 5, 13, 3, 6], [4, -3, 12]), [1, 2]),
                  (check([7, 5, 12, 3, 6], [4, -3, 12]), [1, 3]))

    def test_flows_out_of_bounds(self):
        self.hold(CHAIN, (check([7, 5, 12, 0, 0], [5, -3, 12]), [2, 0]),
                  (check([7, 5, 12, 0, 0], [-1, -3, 12]), [2, 0]), (check([7, 5, 12, 0, 0], [4, -4, 12]), [2, 1]),
                  (check([7, 5, 12, 0, 0], [4, 10, 12]), [2, 1]), (check([7, 5, 12, 0, 0], [4, -3, 21]), [2, 2]),
                  (check([7, 5, 12, 0, 0], [4, -4, -21]), [2, 1]))

    def test_zones_out_of_balance(self):
        self.hold(CHAIN, (check([6, 5, 12, 0, 0], [4, -3, 12]), [3, 0]),
                  (check([7, 5, 12, 0, 0], [4, -3, 11]), [3, 1]), (check([7, 5, 11, 0, 0], [4, -3, 12]), [3, 2]),
                  (check([7, 5, 12, 0, 1], [4, -3, 12]), [3, 0]), (check([7, 5, 12, 0, 0], [3, 3, 12]), [3, 0]),
                  (check([30, 10, 12, 2, 5], [0, 0, 0]), [3, 0]))

    def test_less_welfare_than_the_outcome(self):
        self.hold(CHAIN, (check([0, 0, 0, 0, 0], [0, 0, 0]), [4, 590]),
                  (check([7, 4, 11, 0, 0], [4, -3, 11]), [4, 20]),
                  (check([6, 5, 11, 0, 0], [3, -3, 11]), [4, 70]),
                  (check([6, 6, 12, 0, 0], [4, -2, 12]), [4, 50]),
                  (check([7, 5, 10, 2, 0], [4, -3, 10]), [4, 70]),
                  (check([12, 5, 12, 0, 5], [4, -3, 12]), [4, 50]))

    def test_the_first_verdict_that_holds(self):
        net = [opening(0, 100, 2), sell(0, 20, 10), buy(1, 70, 8), line(0, 1, 5, 0)]
        self.hold(net, (check([11, 9], [6]), [1, 0]), (check([10, 9], [6]), [1, 1]), (check([10, 8], [6]), [2, 0]),
                  (check([10, 8], [-1]), [2, 0]), (check([0, 0], [6]), [2, 0]), (check([10, 8], [5]), [3, 0]),
                  (check([5, 8], [5]), [3, 1]), (check([0, 0], [5]), [3, 0]), (check([4, 4], [4]), [4, 50]),
                  (check([5, 5], [5]), [0, 0]))

    def test_greatest_numbers(self):
        net = [opening(0, 100, 2), sell(0, 20, BILLION), buy(1, 70, BILLION), line(0, 1, BILLION, BILLION)]
        self.hold(net, (check([2 * BILLION, 0], [0]), [1, 0]), (check([0, -2 * BILLION], [0]), [1, 1]),
                  (check([0, 0], [2 * BILLION]), [2, 0]), (check([0, 0], [-2 * BILLION]), [2, 0]),
                  (check([0, 0], [-BILLION]), [3, 0]), (check([BILLION, BILLION], [BILLION]), [0, 0]),
                  (check([0, 0], [0]), [4, 50 * BILLION]))


class WorthTest(AskedTest):
    def test_orders_of_one_zone(self):
        self.hold(ONE_ZONE, (worth(0), [80, 80]), (worth(1), [70, 0]), (worth(2), [250, 250]), (worth(3), [20, 20]),
                  (worth(4), [0, 0]))

    def test_orders_along_a_chain(self):
        self.hold(CHAIN, (worth(0), [390, 0]), (worth(1), [100, 0]), (worth(2), [520, 240]), (worth(3), [0, 0]),
                  (worth(4), [0, 0]))

    def test_an_order_that_is_worth_more_than_its_surplus(self):
        self.hold([opening(0, 9, 1), sell(0, 1, 4), buy(0, 8, 4)], (worth(0), [28, 12]), (worth(1), [28, 16]))

    def test_an_order_of_the_amount_0(self):
        self.hold([*ONE_ZONE, amend(2, 0)], (worth(2), [0, 0]), (worth(3), [20, 20]))

    def test_prices_below_0(self):
        self.hold([opening(-9, -2, 1), sell(0, -8, 3), buy(0, -5, 2)], (worth(0), [6, 0]), (worth(1), [6, 6]))


class LineworthTest(AskedTest):
    def test_lines_along_a_chain(self):
        self.hold(CHAIN, (lineworth(0), [200, 200]), (lineworth(1), [150, 150]), (lineworth(2), [520, 0]))

    def test_lines_of_a_ring(self):
        self.hold(RING, (lineworth(0), [60, 0]), (lineworth(1), [60, 0]), (lineworth(2), [60, 0]))

    def test_a_line_without_room(self):
        self.hold([*CHAIN, rooms(1, 0, 0)], (lineworth(1), [0, 0]), (lineworth(0), [240, 200]))

    def test_a_line_that_carries_nothing(self):
        self.hold([opening(0, 9, 2), line(0, 1, 5, 5), sell(0, 4, 2), buy(1, 3, 2)], (lineworth(0), [0, 0]))

    def test_a_line_that_carries_back(self):
        self.hold([opening(0, 9, 2), line(0, 1, 0, 4), sell(1, 2, 5), buy(0, 8, 6)], (lineworth(0), [24, 24]))


class AreasTest(AskedTest):
    def test_without_lines_each_zone_is_an_area(self):
        self.hold([opening(0, 9, 6)], (AREAS, [6, 0, 1, 2, 3, 4, 5]))
        self.hold([opening(0, 9, 1)], (AREAS, [1, 0]))

    def test_a_chain_and_a_ring(self):
        self.hold(CHAIN, (AREAS, [3, 0, 1, 1]))
        self.hold(RING, (AREAS, [3, 0, 0, 0]))

    def test_several_lines_between_the_same_two_zones(self):
        # Line 0 is kept as near to 0 as can be, so up to 3 it carries nothing. At 3 and at 7 each line is at an end.
        for bought, areas in ((1, [0, 0, 2]), (2, [0, 0, 2]), (3, [0, 1, 2]), (4, [0, 0, 2]), (6, [0, 0, 2]),
                              (7, [0, 1, 2]), (9, [0, 1, 2])):
            net = [opening(0, 9, 3), line(0, 1, 4, 0), line(0, 1, 3, 3), sell(0, 2, 9), buy(1, 5, bought)]
            self.hold(net, (AREAS, [3, *areas]))

    def test_a_line_full_either_way(self):
        forth = [opening(0, 9, 2), line(0, 1, 2, 5), sell(0, 2, 9), buy(1, 5, 9)]
        back = [opening(0, 9, 2), line(0, 1, 5, 2), sell(1, 2, 9), buy(0, 5, 9)]
        for net in (forth, back):
            self.hold(net, (AREAS, [2, 0, 1]))
        self.hold([*forth, amend(0, 1)], (AREAS, [2, 0, 0]))
        self.hold([*back, amend(0, 1)], (AREAS, [2, 0, 0]))

    def test_lines_without_room(self):
        for forth, back, area in ((0, 0, 1), (5, 0, 1), (0, 5, 1), (1, 1, 0)):
            self.hold([opening(0, 9, 2), line(0, 1, forth, back)], (AREAS, [2, 0, area]))
            self.hold([opening(0, 9, 2), line(1, 0, forth, back)], (AREAS, [2, 0, area]))

    def test_ways_over_several_lines(self):
        net = [opening(0, 9, 6), line(4, 5, 1, 1), line(5, 1, 1, 1), line(3, 2, 1, 1), line(0, 3, 0, 5)]
        self.hold(net, (AREAS, [6, 0, 1, 2, 2, 1, 1]))
        self.hold([*net, line(1, 3, 1, 1)], (AREAS, [6, 0, 1, 1, 1, 1, 1]))
        self.hold([*net, line(5, 0, 1, 1)], (AREAS, [6, 0, 0, 2, 2, 0, 0]))
        self.hold([opening(0, 9, 6), line(4, 5, 1, 1), line(2, 3, 1, 1), line(5, 2, 1, 1), line(3, 0, 1, 1)],
                  (AREAS, [6, 0, 1, 0, 0, 0, 0]))


class NetTest(AskedTest):
    def test_prices_at_and_between_the_orders(self):
        self.hold(ONE_ZONE, (net_at(0, 9), [-15, -15]), (net_at(0, 10), [-15, -11]), (net_at(0, 11), [-11, -11]),
                  (net_at(0, 29), [-11, -11]), (net_at(0, 30), [-11, 4]), (net_at(0, 31), [4, 4]),
                  (net_at(0, 50), [4, 5]), (net_at(0, 80), [5, 10]), (net_at(0, 81), [10, 10]))

    def test_prices_outside_the_bounds(self):
        self.hold(ONE_ZONE, (net_at(0, -1), [-15, -15]), (net_at(0, 101), [10, 10]),
                  (net_at(0, -MILLION), [-15, -15]), (net_at(0, MILLION), [10, 10]))

    def test_the_widest_bounds(self):
        net = [opening(-MILLION, MILLION, 1), sell(0, -MILLION, 3), buy(0, -MILLION, 5), sell(0, MILLION, 7),
               buy(0, MILLION, 11)]
        self.hold(net, (net_at(0, -MILLION), [-16, -8]), (net_at(0, MILLION), [-8, 10]))

    def test_the_zone_alone_counts_and_lines_do_not(self):
        self.hold(CHAIN, (net_at(1, 40), [0, 10]), (net_at(1, 25), [-2, 0]), (net_at(0, -20), [-5, 0]),
                  (net_at(0, -10), [0, 30]), (net_at(2, 60), [-12, 0]))
        self.hold([opening(0, 9, 2), sell(1, 5, 2)], (net_at(0, 5), [0, 0]), (net_at(1, 5), [0, 2]))

    def test_an_amended_order(self):
        self.hold([*ONE_ZONE, amend(0, 0), amend(4, BILLION)], (net_at(0, 30), [-BILLION - 6, 0]))


class TightTest(AskedTest):
    def test_zones_without_a_line(self):
        net = [opening(0, 100, 2), sell(0, 20, 10), buy(1, 70, 8)]
        self.hold(net, (tight(0), [8, 2, 0, 1, 2, 1, 1]), (tight(19), [8, 2, 0, 1, 2, 1, 1]),
                  (tight(20), [8, 2, 0, 1, 2, 0, 1]), (tight(69), [8, 2, 0, 1, 2, 0, 1]),
                  (tight(70), [0, 2, 0, 0, 2, 0, 1]), (tight(100), [0, 2, 0, 0, 2, 0, 1]))

    def test_zones_with_a_line(self):
        net = [opening(0, 100, 2), line(0, 1, 5, 0), sell(0, 20, 10), buy(1, 70, 8)]
        self.hold(net, (tight(19), [8, 2, 1, 1, 2, 1, 1]), (tight(20), [3, 2, 0, 1, 2, 0, 1]),
                  (tight(69), [3, 2, 0, 1, 2, 0, 1]), (tight(70), [0, 2, 0, 0, 2, 0, 0]))

    def test_t_outside_the_bounds(self):
        net = [opening(0, 100, 2), sell(0, 20, 10), buy(1, 70, 8)]
        for t in (-1, -MILLION):
            self.hold(net, (tight(t), [8, 2, 0, 1, 2, 1, 1]))
        for t in (101, MILLION):
            self.hold(net, (tight(t), [0, 2, 0, 0, 2, 0, 1]))

    def test_several_groups_have_the_most_shortage(self):
        self.hold([opening(0, 9, 3), buy(1, 5, 4)], (tight(3), [4, 3, 0, 1, 0, 3, 1, 1, 1]))
        self.hold([opening(0, 9, 3), buy(1, 5, 4), sell(0, 2, 1)], (tight(3), [4, 3, 0, 1, 0, 3, 0, 1, 1]))
        self.hold([opening(0, 9, 3), buy(1, 5, 4), line(1, 2, 3, 3)], (tight(3), [4, 3, 0, 1, 1, 3, 1, 1, 1]))
        # The line brings zone 0 just what zone 1 has to sell: zone 0 lacks as much alone as together with zone 1.
        self.hold([opening(0, 9, 2), buy(0, 5, 7), sell(1, 2, 3), line(1, 0, 3, 0)],
                  (tight(3), [4, 2, 1, 0, 2, 1, 1]))

    def test_a_most_shortage_of_0(self):
        self.hold([opening(0, 9, 3)], (tight(4), [0, 3, 0, 0, 0, 3, 1, 1, 1]))
        self.hold([opening(0, 9, 2), line(0, 1, 3, 3)], (tight(4), [0, 2, 0, 0, 2, 1, 1]))
        self.hold([opening(0, 9, 2), sell(0, 2, 3)], (tight(4), [0, 2, 0, 0, 2, 0, 1]))
        self.hold([opening(0, 9, 2), buy(1, 8, 4), sell(0, 2, 4), line(0, 1, 4, 0)],
                  (tight(4), [0, 2, 0, 0, 2, 1, 1]))
        self.hold([opening(0, 9, 2), buy(1, 8, 4), sell(0, 2, 5), line(0, 1, 4, 0)],
                  (tight(4), [0, 2, 0, 0, 2, 0, 1]))

    def test_greatest_numbers(self):
        net = [opening(-MILLION, MILLION, 1)] + [buy(0, MILLION, BILLION)] * 40
        self.hold(net, (tight(MILLION - 1), [40 * BILLION, 1, 1, 1, 1]), (tight(MILLION), [0, 1, 0, 1, 1]))


class ShortageTest(AskedTest):
    def test_each_group_of_a_chain(self):
        shortages = (([0, 0, 0], 0), ([1, 0, 0], -39), ([0, 1, 0], -27), ([1, 1, 0], -50), ([0, 0, 1], -8),
                     ([1, 0, 1], -47), ([0, 1, 1], 5), ([1, 1, 1], -18))
        self.hold(CHAIN, *[(shortage(30, group), [short]) for group, short in shortages])

    def test_t_at_the_prices_of_orders(self):
        shortages = ((24, 7), (25, 5), (39, 5), (40, -5), (59, -5), (60, -17))
        self.hold(CHAIN, *[(shortage(t, [0, 1, 1]), [short]) for t, short in shortages])
        self.hold(CHAIN, (shortage(-21, [1, 0, 0]), [-4]), (shortage(-20, [1, 0, 0]), [-9]),
                  (shortage(-11, [1, 0, 0]), [-9]), (shortage(-10, [1, 0, 0]), [-39]))

    def test_t_outside_the_bounds(self):
        self.hold(CHAIN, (shortage(-51, [1, 1, 1]), [19]), (shortage(-MILLION, [1, 1, 1]), [19]),
                  (shortage(101, [1, 1, 1]), [-40]), (shortage(MILLION, [1, 1, 1]), [-40]),
                  (shortage(MILLION, [0, 0, 0]), [0]))

    def test_one_zone(self):
        self.hold(ONE_ZONE, (shortage(30, [1]), [-4]), (shortage(29, [1]), [11]), (shortage(29, [0]), [0]))


class UnitTest(AskedTest):
    def test_a_chain_and_a_ring(self):
        self.hold(CHAIN, (unit(0), [-10, -10]), (unit(1), [40, 40]), (unit(2), [40, 40]))
        self.hold(RING, (unit(0), [10, 10]), (unit(1), [10, 10]), (unit(2), [10, 10]))

    def test_without_orders(self):
        self.hold([opening(-7, 12, 2), line(0, 1, 4, 4)], (unit(0), [12, -7]), (unit(1), [12, -7]))

    def test_orders_that_no_line_reaches(self):
        self.hold([opening(0, 90, 2), buy(0, 30, 5), sell(1, 20, 5)], (unit(0), [90, 30]), (unit(1), [20, 0]))

    def test_low_equal_to_high(self):
        self.hold([opening(7, 7, 1), sell(0, 7, 3)], (unit(0), [7, 7]))

    def test_a_seller_who_is_just_sold_out(self):
        self.hold([opening(0, 9, 1), sell(0, 2, 4), sell(0, 6, 1), buy(0, 8, 4)], (unit(0), [6, 2]))

    def test_40_orders_are_no_hindrance(self):
        net = [opening(0, 9, 1)] + [sell(0, 1, 1)] * 20 + [buy(0, 5, 1)] * 20
        self.hold(net, (unit(0), [5, 1]))
        self.assertEqual(ask(*net, unit(0), sell(0, 1, 1), CLEAR)[-3:],
                         [[0, 5, 1], [-5], [0, 1, 3, 40] + [1] * 40 + [0]])

    def test_calls_behind_it_see_none_of_its_orders(self):
        net = [opening(0, 9, 2), line(0, 1, 1, 0), sell(0, 2, 5), buy(1, 7, 5)]
        self.assertEqual(ask(*net, unit(0), unit(1), sell(0, 3, 1), RANGE)[-4:],
                         [[0, 2, 2], [0, 7, 7], [0, 2], [0, 2, 2, 7, 2, 2, 7]])


class StateTest(AskedTest):
    def test_an_empty_net(self):
        self.hold([opening(-7, 12, 4)], (STATE, [-7, 12, 4, 0, 0]))

    def test_lines_and_orders(self):
        self.hold(CHAIN, (STATE, [-50, 100, 3, 12, 0, 1, 4, 0, 1, 0, 9, 3, 1, 2, 20, 20,
                                  20, 0, 0, -10, 30, 1, 0, 40, 10, 2, 1, 60, 12, 1, 1, 25, 2, 0, 1, -20, 5]))

    def test_changes_are_told(self):
        net = [opening(1, 6, 2), line(1, 0, 4, 5), sell(1, 3, 2)]
        told = ask(*net, STATE, rooms(0, 8, 0), STATE, amend(0, 0), STATE, buy(0, 6, 1), STATE, opening(0, 0, 1), STATE)
        self.assertEqual(told[3::2], [[0, 1, 6, 2, 4, 1, 0, 4, 5, 4, 1, 0, 3, 2],
                                      [0, 1, 6, 2, 4, 1, 0, 8, 0, 4, 1, 0, 3, 2],
                                      [0, 1, 6, 2, 4, 1, 0, 8, 0, 4, 1, 0, 3, 0],
                                      [0, 1, 6, 2, 4, 1, 0, 8, 0, 8, 1, 0, 3, 0, 0, 1, 6, 1],
                                      [0, 0, 0, 1, 0, 0]])

    def test_12_lines_and_40_orders(self):
        lines = [line(k % 6, (k + 1) % 6, k, BILLION - k) for k in range(12)]
        orders = [[2, k % 6, k % 2, k - 20, BILLION - k] for k in range(40)]
        rows = [48] + [number for call in lines for number in call[1:]]
        rows += [160] + [number for call in orders for number in call[1:]]
        self.assertEqual(last(opening(-20, 19, 6), *lines, *orders, STATE), [0, -20, 19, 6, *rows])


if __name__ == "__main__":
    unittest.main()
