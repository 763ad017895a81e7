"""The examples of the document, number for number."""

import unittest

from tests.helper import CLEAR, MONEY, RANGE, WELFARE, ask, buy, last, line, opening, rooms, sell, zone

TWO_ZONES = [opening(0, 100, 2), sell(0, 20, 10), buy(1, 70, 8)]


class TwoZonesTest(unittest.TestCase):
    def test_without_a_line(self):
        self.assertEqual(ask(*TWO_ZONES), [[0], [0, 0], [0, 1]])
        self.assertEqual(last(*TWO_ZONES, CLEAR), [0, 2, 10, 85, 2, 0, 0, 0])
        self.assertEqual(last(*TWO_ZONES, RANGE), [0, 2, 0, 70, 2, 20, 100])
        self.assertEqual(last(*TWO_ZONES, MONEY), [0, 0, 0, 0])
        self.assertEqual(last(*TWO_ZONES, WELFARE), [0, 0, 0, 0, 0])
        self.assertEqual(last(*TWO_ZONES, zone(1)), [0, 85, 0, 0, 0])

    def test_with_room_forth_5(self):
        net = [*TWO_ZONES, line(0, 1, 5, 0)]
        self.assertEqual(last(*net), [0, 0])
        self.assertEqual(last(*net, CLEAR), [0, 2, 20, 70, 2, 5, 5, 1, 5])
        self.assertEqual(last(*net, RANGE), [0, 2, 20, 70, 2, 20, 70])
        self.assertEqual(last(*net, MONEY), [0, 350, 100, 1, 250])
        self.assertEqual(last(*net, WELFARE), [0, 250, 0, 0, 250])
        self.assertEqual(last(*net, zone(0)), [0, 20, 5, 0, 5])
        self.assertEqual(last(*net, zone(1)), [0, 70, 0, 5, -5])

    def test_with_room_forth_30(self):
        for net in ([*TWO_ZONES, line(0, 1, 30, 0)], [*TWO_ZONES, line(0, 1, 5, 0), rooms(0, 30, 0)]):
            self.assertEqual(last(*net, CLEAR), [0, 2, 20, 20, 2, 8, 8, 1, 8])
            self.assertEqual(last(*net, RANGE), [0, 2, 20, 20, 2, 20, 20])
            self.assertEqual(last(*net, MONEY), [0, 160, 160, 1, 0])
            self.assertEqual(last(*net, WELFARE), [0, 400, 400, 0, 0])


class FewOrdersTest(unittest.TestCase):
    def test_no_orders_at_all(self):
        self.assertEqual(last(opening(-7, 12, 3), RANGE), [0, 3, -7, -7, -7, 3, 12, 12, 12])
        self.assertEqual(last(opening(-7, 12, 3), CLEAR), [0, 3, 2, 2, 2, 0, 0])

    def test_one_order_that_no_line_reaches(self):
        net = [opening(0, 90, 1), buy(0, 30, 5)]
        self.assertEqual(last(*net, RANGE), [0, 1, 30, 1, 90])
        self.assertEqual(last(*net, CLEAR), [0, 1, 60, 1, 0, 0])

    def test_equal_prices_go_to_the_first_order(self):
        net = [opening(0, 100, 1), sell(0, 10, 5), sell(0, 10, 5), buy(0, 50, 7)]
        self.assertEqual(last(*net, CLEAR), [0, 1, 10, 3, 5, 2, 7, 0])
        self.assertEqual(last(*net, RANGE), [0, 1, 10, 1, 10])

    def test_half_of_minus_3_is_rounded_to_minus_2(self):
        self.assertEqual(last(opening(-3, 0, 1), CLEAR), [0, 1, -2, 0, 0])


if __name__ == "__main__":
    unittest.main()
