"""The edges that the document names."""

import unittest

from tests.helper import CLEAR, MONEY, RANGE, WELFARE, amend, ask, buy, last, line, opening, rooms, sell, zone

BILLION = 1000000000
MILLION = 1000000


class BoundsTest(unittest.TestCase):
    def test_no_orders_at_all(self):
        net = [opening(-4, 7, 2), line(0, 1, 3, 3)]
        told = ask(*net, CLEAR, RANGE, zone(1), MONEY, WELFARE)[2:]
        self.assertEqual(told, [[0, 2, 1, 1, 0, 1, 0], [0, 2, -4, -4, 2, 7, 7], [0, 1, 0, 0, 0], [0, 0, 0, 1, 0],
                                [0, 0, 0, 0, 0]])

    def test_low_equal_to_high(self):
        net = [opening(-9, -9, 2), sell(0, -9, 5), buy(1, -9, 3), line(1, 0, 1, 2)]
        told = ask(*net, CLEAR, RANGE, MONEY, WELFARE)[4:]
        self.assertEqual(told, [[0, 2, -9, -9, 2, 2, 2, 1, -2], [0, 2, -9, -9, 2, -9, -9], [0, -18, -18, 1, 0],
                                [0, 0, 0, 0, 0]])

    def test_low_equal_to_high_without_orders(self):
        self.assertEqual(last(opening(MILLION, MILLION, 1), RANGE), [0, 1, MILLION, 1, MILLION])

    def test_sell_at_the_low_bound(self):
        net = [opening(5, 8, 1), sell(0, 5, 2)]
        self.assertEqual(last(*net, RANGE), [0, 1, 5, 1, 5])
        self.assertEqual(last(*net, buy(0, 7, 1), RANGE), [0, 1, 5, 1, 5])
        self.assertEqual(last(*net, buy(0, 7, 3), RANGE), [0, 1, 7, 1, 7])

    def test_sell_at_the_high_bound(self):
        net = [opening(5, 8, 1), sell(0, 8, 2)]
        self.assertEqual(last(*net, RANGE), [0, 1, 5, 1, 8])
        self.assertEqual(last(*net, buy(0, 8, 3), RANGE), [0, 1, 8, 1, 8])
        self.assertEqual(last(*net, buy(0, 8, 3), CLEAR), [0, 1, 8, 2, 2, 2, 0])

    def test_buy_at_the_low_bound(self):
        net = [opening(5, 8, 1), buy(0, 5, 2)]
        self.assertEqual(last(*net, RANGE), [0, 1, 5, 1, 8])
        self.assertEqual(last(*net, sell(0, 5, 1), CLEAR), [0, 1, 5, 2, 1, 1, 0])

    def test_buy_at_the_high_bound(self):
        net = [opening(5, 8, 1), buy(0, 8, 2)]
        self.assertEqual(last(*net, RANGE), [0, 1, 8, 1, 8])
        self.assertEqual(last(*net, sell(0, 6, 2), RANGE), [0, 1, 6, 1, 8])

    def test_half_of_a_sum_below_0_is_rounded_down(self):
        halves = ((-3, 0, -2), (-2, 1, -1), (-1, 0, -1), (-7, -4, -6), (-4, -2, -3), (0, 3, 1), (-1, 2, 0))
        for low, high, told in halves:
            self.assertEqual(last(opening(low, high, 1), CLEAR), [0, 1, told, 0, 0])

    def test_widest_bounds(self):
        net = [opening(-MILLION, MILLION, 1)]
        self.assertEqual(last(*net, RANGE), [0, 1, -MILLION, 1, MILLION])
        self.assertEqual(last(*net, CLEAR), [0, 1, 0, 0, 0])


class CountsTest(unittest.TestCase):
    def test_six_zones_in_a_row(self):
        lines = [line(k, k + 1, 10 - k, 0) for k in range(5)]
        net = [opening(0, 99, 6), *lines, sell(0, 1, 50), buy(5, 80, 50)]
        self.assertEqual(last(*net, CLEAR), [0, 6, 1, 1, 1, 1, 1, 80, 2, 6, 6, 5, 6, 6, 6, 6, 6])
        self.assertEqual(ask(*net, zone(5), zone(3))[-2:], [[0, 80, 0, 6, -6], [0, 1, 0, 0, 0]])

    def test_twelve_lines_and_the_thirteenth(self):
        lines = [line(k % 2, 1 - k % 2, 1, 1) for k in range(13)]
        told = ask(opening(0, 9, 2), *lines, sell(0, 1, 11), buy(1, 8, 20), CLEAR)
        self.assertEqual(told[1:14], [[0, k] for k in range(12)] + [[-5]])
        self.assertEqual(told[-1], [0, 2, 8, 8, 2, 11, 11, 12, 0] + [(-1) ** k for k in range(1, 12)])

    def test_forty_orders_and_the_forty_first(self):
        orders = [sell(0, 1, 1) for _ in range(40)]
        told = ask(opening(0, 9, 1), *orders, sell(0, 1, 1), amend(39, 7), amend(38, 3), CLEAR)
        self.assertEqual(told[1:42], [[0, k] for k in range(40)] + [[-5]])
        self.assertEqual(told[42:44], [[0], [0]])
        self.assertEqual(told[-1], [0, 1, 0, 40] + [0] * 40 + [0])

    def test_order_39_and_40(self):
        orders = [sell(0, 1, 1) for _ in range(39)]
        net = [opening(0, 9, 1), *orders, buy(0, 9, 1)]
        self.assertEqual(ask(*net, amend(40, 0), amend(39, 12), CLEAR)[-3:],
                         [[-1], [0], [0, 1, 1, 40] + [1] * 12 + [0] * 27 + [12] + [0]])
        self.assertEqual(ask(*net[:-1], amend(39, 0), amend(38, 0))[-2:], [[-3], [0]])

    def test_line_11_and_12(self):
        lines = [line(0, 1, 0, 0) for _ in range(12)]
        net = [opening(0, 9, 2), *lines, sell(0, 1, 5), buy(1, 9, 3)]
        told = ask(*net, rooms(12, 4, 4), rooms(11, 4, 4), CLEAR)[-3:]
        self.assertEqual(told, [[-1], [0], [0, 2, 1, 1, 2, 3, 3, 12] + [0] * 11 + [3]])
        self.assertEqual(ask(*net[:12], rooms(11, 4, 4), rooms(10, 4, 4))[-2:], [[-3], [0]])


class AmountsAndRoomsTest(unittest.TestCase):
    def test_an_amount_of_0_bounds_no_price(self):
        net = [opening(0, 100, 1), sell(0, 20, 5), amend(0, 0)]
        self.assertEqual(last(*net, RANGE), [0, 1, 0, 1, 100])
        self.assertEqual(last(*net, CLEAR), [0, 1, 50, 1, 0, 0])

    def test_an_amount_of_more_than_before(self):
        net = [opening(0, 100, 1), sell(0, 20, 5), buy(0, 60, 9), amend(0, 8)]
        self.assertEqual(last(*net, CLEAR), [0, 1, 60, 2, 8, 8, 0])
        self.assertEqual(last(*net, amend(0, BILLION), CLEAR), [0, 1, 20, 2, 9, 9, 0])

    def test_rooms_of_0_join_no_prices(self):
        net = [opening(0, 100, 2), line(0, 1, 0, 0), sell(0, 20, 5), buy(1, 60, 9)]
        self.assertEqual(last(*net, RANGE), [0, 2, 0, 60, 2, 20, 100])
        self.assertEqual(last(*net, CLEAR), [0, 2, 10, 80, 2, 0, 0, 1, 0])

    def test_rooms_changed_to_0_and_back(self):
        net = [opening(0, 100, 2), line(0, 1, 7, 7), sell(0, 20, 5), buy(1, 60, 9)]
        told = ask(*net, CLEAR, rooms(0, 0, 0), CLEAR, rooms(0, BILLION, 0), CLEAR)[4:]
        self.assertEqual(told, [[0, 2, 60, 60, 2, 5, 5, 1, 5], [0], [0, 2, 10, 80, 2, 0, 0, 1, 0], [0],
                                [0, 2, 60, 60, 2, 5, 5, 1, 5]])

    def test_greatest_numbers(self):
        net = [opening(-MILLION, MILLION, 2), line(0, 1, BILLION, BILLION)]
        net += [sell(0, -MILLION, BILLION)] * 3 + [buy(1, MILLION, BILLION)] * 2
        shares = [BILLION, 0, 0, BILLION, 0]
        self.assertEqual(last(*net, CLEAR), [0, 2, -MILLION, MILLION, 5, *shares, 1, BILLION])
        self.assertEqual(last(*net, MONEY), [0, 10 ** 15, -10 ** 15, 1, 2 * 10 ** 15])
        self.assertEqual(last(*net, WELFARE), [0, 2 * 10 ** 15, 0, 0, 2 * 10 ** 15])

    def test_greatest_welfare(self):
        net = [opening(-MILLION, MILLION, 1)]
        net += [sell(0, -MILLION, BILLION)] * 20 + [buy(0, MILLION, BILLION)] * 20
        self.assertEqual(last(*net, CLEAR), [0, 1, 0, 40] + [BILLION] * 40 + [0])
        self.assertEqual(last(*net, WELFARE), [0, 4 * 10 ** 16, 2 * 10 ** 16, 2 * 10 ** 16, 0])


if __name__ == "__main__":
    unittest.main()
