"""The examples of the document, number for number."""

import unittest

from tests.helper import (AREAS, CLEAR, MONEY, RANGE, STATE, WELFARE, AskedTest, ask, buy, check, last, line, lineworth,
                          net_at, opening, rooms, sell, shortage, supporting, tight, unit, worth, zone)

TWO_ZONES = [opening(0, 100, 2), sell(0, 20, 10), buy(1, 70, 8)]


class TwoZonesTest(AskedTest):
    def test_without_a_line(self):
        self.assertEqual(ask(*TWO_ZONES), [[0], [0, 0], [0, 1]])
        self.assertEqual(last(*TWO_ZONES, CLEAR), [0, 2, 10, 85, 2, 0, 0, 0])
        self.assertEqual(last(*TWO_ZONES, RANGE), [0, 2, 0, 70, 2, 20, 100])
        self.assertEqual(last(*TWO_ZONES, MONEY), [0, 0, 0, 0])
        self.assertEqual(last(*TWO_ZONES, WELFARE), [0, 0, 0, 0, 0])
        self.assertEqual(last(*TWO_ZONES, zone(1)), [0, 85, 0, 0, 0])

    def test_asked_without_a_line(self):
        asked = ((supporting([10, 85]), [1]), (supporting([0, 70]), [1]), (supporting([20, 100]), [1]),
                 (supporting([21, 85]), [0]), (supporting([10, 69]), [0]), (supporting([-1, 85]), [0]),
                 (supporting([10, 101]), [0]), (check([0, 0], []), [0, 0]), (check([8, 8], []), [3, 0]),
                 (worth(0), [0, 0]), (worth(1), [0, 0]), (AREAS, [2, 0, 1]), (net_at(0, 20), [0, 10]),
                 (net_at(1, 70), [-8, 0]), (tight(50), [8, 2, 0, 1, 2, 0, 1]), (shortage(50, [1, 1]), [-2]),
                 (unit(0), [20, 0]), (unit(1), [100, 70]),
                 (STATE, [0, 100, 2, 0, 8, 0, 0, 20, 10, 1, 1, 70, 8]))
        self.hold(TWO_ZONES, *asked)

    def test_with_room_forth_5(self):
        net = [*TWO_ZONES, line(0, 1, 5, 0)]
        self.assertEqual(last(*net), [0, 0])
        self.assertEqual(last(*net, CLEAR), [0, 2, 20, 70, 2, 5, 5, 1, 5])
        self.assertEqual(last(*net, RANGE), [0, 2, 20, 70, 2, 20, 70])
        self.assertEqual(last(*net, MONEY), [0, 350, 100, 1, 250])
        self.assertEqual(last(*net, WELFARE), [0, 250, 0, 0, 250])
        self.assertEqual(last(*net, zone(0)), [0, 20, 5, 0, 5])
        self.assertEqual(last(*net, zone(1)), [0, 70, 0, 5, -5])

    def test_asked_with_room_forth_5(self):
        asked = ((supporting([20, 70]), [1]), (supporting([20, 20]), [0]), (supporting([70, 70]), [0]),
                 (check([5, 5], [5]), [0, 0]), (check([4, 4], [4]), [4, 50]), (check([8, 8], [8]), [2, 0]),
                 (worth(0), [250, 0]), (worth(1), [250, 0]), (lineworth(0), [250, 250]), (AREAS, [2, 0, 1]),
                 (tight(19), [8, 2, 1, 1, 2, 1, 1]), (tight(50), [3, 2, 0, 1, 2, 0, 1]),
                 (shortage(50, [0, 1]), [3]), (unit(0), [20, 20]), (unit(1), [70, 70]),
                 (STATE, [0, 100, 2, 4, 0, 1, 5, 0, 8, 0, 0, 20, 10, 1, 1, 70, 8]))
        self.hold([*TWO_ZONES, line(0, 1, 5, 0)], *asked)

    def test_asked_with_room_forth_30(self):
        asked = ((supporting([20, 20]), [1]), (supporting([20, 70]), [0]), (supporting([70, 20]), [0]),
                 (check([8, 8], [8]), [0, 0]), (check([5, 5], [5]), [4, 150]), (worth(0), [400, 0]),
                 (worth(1), [400, 400]), (lineworth(0), [400, 0]), (AREAS, [2, 0, 0]),
                 (tight(19), [8, 2, 1, 1, 2, 1, 1]), (tight(20), [0, 2, 0, 0, 2, 0, 0]),
                 (unit(0), [20, 20]), (unit(1), [20, 20]))
        self.hold([*TWO_ZONES, line(0, 1, 30, 0)], *asked)

    def test_with_room_forth_30(self):
        for net in ([*TWO_ZONES, line(0, 1, 30, 0)], [*TWO_ZONES, line(0, 1, 5, 0), rooms(0, 30, 0)]):
            self.assertEqual(last(*net, CLEAR), [0, 2, 20, 20, 2, 8, 8, 1, 8])
            self.assertEqual(last(*net, RANGE), [0, 2, 20, 20, 2, 20, 20])
            self.assertEqual(last(*net, MONEY), [0, 160, 160, 1, 0])
            self.assertEqual(last(*net, WELFARE), [0, 400, 400, 0, 0])


class FewOrdersTest(AskedTest):
    def test_no_orders_at_all(self):
        self.assertEqual(last(opening(-7, 12, 3), RANGE), [0, 3, -7, -7, -7, 3, 12, 12, 12])
        self.assertEqual(last(opening(-7, 12, 3), CLEAR), [0, 3, 2, 2, 2, 0, 0])

    def test_one_order_that_no_line_reaches(self):
        net = [opening(0, 90, 1), buy(0, 30, 5)]
        self.assertEqual(last(*net, RANGE), [0, 1, 30, 1, 90])
        self.assertEqual(last(*net, CLEAR), [0, 1, 60, 1, 0, 0])

    def test_equal_prices_go_to_the_first_order(self):
        net = [opening(0, 100, 1), sell(0, 10, 5), sell(0, 10, 5), buy(0, 50, 7)]
        self.assertEqual(last(*net, CLEAR), [0, 1, 10, 3, 5, 2, 7, 0])
        self.assertEqual(last(*net, RANGE), [0, 1, 10, 1, 10])

    def test_asked_of_few_orders(self):
        self.hold([opening(-7, 12, 2)], (supporting([-7, 12]), [1]), (supporting([12, -7]), [1]), (AREAS, [2, 0, 1]),
                  (tight(0), [0, 2, 0, 0, 2, 1, 1]), (unit(1), [12, -7]))
        self.hold([opening(0, 90, 1), buy(0, 30, 5)], (supporting([29]), [0]), (supporting([30]), [1]),
                  (supporting([90]), [1]), (worth(0), [0, 0]), (tight(29), [5, 1, 1, 1, 1]),
                  (tight(30), [0, 1, 0, 1, 1]), (unit(0), [90, 30]))
        self.hold([opening(0, 100, 1), sell(0, 10, 5), sell(0, 10, 5), buy(0, 50, 7)], (supporting([10]), [1]),
                  (supporting([11]), [0]), (check([5, 2, 7], []), [0, 0]), (check([2, 5, 7], []), [0, 0]),
                  (check([5, 1, 6], []), [4, 40]), (worth(0), [80, 0]), (worth(1), [80, 0]), (worth(2), [280, 280]),
                  (net_at(0, 10), [-7, 3]), (unit(0), [10, 10]))

    def test_half_of_minus_3_is_rounded_to_minus_2(self):
        self.assertEqual(last(opening(-3, 0, 1), CLEAR), [0, 1, -2, 0, 0])


if __name__ == "__main__":
    unittest.main()
