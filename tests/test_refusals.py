"""Each refusal of each call, the order in which refusals are looked at, and that a refusal changes nothing."""

import unittest

from tests.helper import CLEAR, MONEY, RANGE, WELFARE, amend, ask, buy, last, line, opening, rooms, sell, zone

BILLION = 1000000000
MILLION = 1000000
FARTHEST = 10 ** 18

NET = [opening(-20, 90, 3), line(0, 1, 5, 2), line(2, 1, 4, 4), sell(0, 10, 9), buy(1, 60, 7), buy(2, 30, 7)]
STATE = [CLEAR, RANGE, zone(0), zone(1), zone(2), MONEY, WELFARE]

# A call that's accepted on NET, and the least and the greatest number that's told for each of its places.
RANGES = (
    (opening(-20, 90, 3), ((-MILLION, MILLION), (-MILLION, MILLION), (1, 6))),
    (line(0, 1, 5, 2), ((0, 5), (0, 5), (0, BILLION), (0, BILLION))),
    (sell(0, 10, 9), ((0, 5), (0, 1), (-MILLION, MILLION), (1, BILLION))),
    (buy(2, 10, 9), ((0, 5), (0, 1), (-MILLION, MILLION), (1, BILLION))),
    (rooms(1, 5, 2), ((0, 11), (0, BILLION), (0, BILLION))),
    (amend(1, 5), ((0, 39), (0, BILLION))),
    (zone(1), ((0, 5),)),
)


def replaced(call, place, number):
    return call[:place + 1] + [number] + call[place + 2:]


class RefusalTest(unittest.TestCase):
    def refused(self, number, *calls):
        """The last call is refused with this number, and all that can be asked is as it was ahead of it."""
        self.assertEqual(last(*calls), [number], calls)
        if calls[:-1]:
            told = ask(*calls[:-1], *STATE, calls[-1], *STATE)[len(calls) - 1:]
            self.assertEqual(told[:len(STATE)], told[len(STATE) + 1:], calls)


class RangeRefusalTest(RefusalTest):
    def test_numbers_outside_their_ranges(self):
        for call, ranges in RANGES:
            self.assertEqual(last(*NET, call)[0], 0)
            for place, (least, greatest) in enumerate(ranges):
                for number in (least - 1, greatest + 1, -FARTHEST, FARTHEST):
                    self.refused(-1, *NET, replaced(call, place, number))

    def test_numbers_at_the_ends_of_their_ranges_are_no_ground_for_minus_1(self):
        for call, ranges in RANGES[1:]:
            for place, ends in enumerate(ranges):
                for number in ends:
                    self.assertNotEqual(last(*NET, replaced(call, place, number)), [-1], (call, place, number))

    def test_all_numbers_as_far_out_as_can_be(self):
        for far in (FARTHEST, -FARTHEST):
            for call, ranges in RANGES:
                self.refused(-1, *NET, call[:1] + [far] * len(ranges))

    def test_places_without_a_call(self):
        for place in (20, -1, -20, FARTHEST, -FARTHEST):
            self.refused(-1, [place])
            self.refused(-1, *NET, [place])

    def test_open_with_high_below_low(self):
        self.refused(-1, *NET, opening(5, 4, 1))
        self.refused(-1, *NET, opening(-MILLION + 1, -MILLION, 6))
        self.refused(-1, opening(1, 0, 2))

    def test_open_at_the_ends(self):
        for net in (opening(-MILLION, -MILLION, 1), opening(MILLION, MILLION, 6), opening(-MILLION, MILLION, 6)):
            self.assertEqual(last(net), [0])


class NoNetTest(RefusalTest):
    def test_every_call_but_open_asks_for_a_net(self):
        for call in (line(0, 1, 5, 2), sell(0, 10, 9), buy(0, 10, 9), rooms(0, 1, 1), amend(0, 1), *STATE):
            self.refused(-2, call)

    def test_a_refused_open_opens_nothing(self):
        self.assertEqual(ask(opening(0, 9, 7), CLEAR, opening(3, 2, 1), CLEAR), [[-1], [-2], [-1], [-2]])

    def test_minus_1_ahead_of_minus_2(self):
        for call, ranges in RANGES[1:]:
            self.refused(-2, call)
            for place, (least, greatest) in enumerate(ranges):
                for number in (least - 1, greatest + 1):
                    self.refused(-1, replaced(call, place, number))

    def test_minus_2_ahead_of_minus_3(self):
        for call in (line(0, 0, 5, 2), line(5, 5, 0, 0), sell(5, 10, 9), rooms(11, 1, 1), amend(39, 1), zone(5)):
            self.refused(-2, call)


class LineRefusalTest(RefusalTest):
    def test_zones_that_are_not_there(self):
        self.refused(-3, *NET, line(3, 0, 1, 1))
        self.refused(-3, *NET, line(0, 3, 1, 1))
        self.refused(-3, *NET, line(5, 4, 1, 1))

    def test_one_zone_twice(self):
        self.refused(-3, *NET, line(1, 1, 1, 1))
        self.refused(-3, opening(0, 1, 1), line(0, 0, 1, 1))

    def test_full(self):
        full = [*NET] + [line(0, 2, 1, 1)] * 10
        self.assertEqual(last(*full), [0, 11])
        self.refused(-5, *full, line(0, 2, 1, 1))

    def test_order(self):
        full = [*NET] + [line(0, 2, 1, 1)] * 10
        self.refused(-3, *full, line(0, 3, 1, 1))
        self.refused(-3, *full, line(2, 2, 1, 1))
        self.refused(-1, *full, line(2, 2, 1, -1))
        self.refused(-1, *NET, line(3, 3, BILLION + 1, 1))


class OrderRefusalTest(RefusalTest):
    def test_a_zone_that_is_not_there(self):
        self.refused(-3, *NET, sell(3, 10, 1))
        self.refused(-3, *NET, buy(5, 10, 1))

    def test_prices_outside_the_bounds(self):
        for price in (-21, 91, -MILLION, MILLION):
            self.refused(-4, *NET, sell(0, price, 1))
            self.refused(-4, *NET, buy(2, price, 1))
        for price in (-20, 90):
            self.assertEqual(last(*NET, sell(0, price, 1)), [0, 3])
            self.assertEqual(last(*NET, buy(2, price, 1)), [0, 3])

    def test_full(self):
        full = [*NET] + [sell(2, 50, 1)] * 37
        self.assertEqual(last(*full), [0, 39])
        self.refused(-5, *full, sell(2, 50, 1))
        self.refused(-5, *full, amend(39, 0), buy(2, 50, 1))

    def test_order(self):
        full = [*NET] + [sell(2, 50, 1)] * 37
        self.refused(-4, *full, sell(2, 91, 1))
        self.refused(-3, *full, sell(4, 91, 1))
        self.refused(-3, *NET, sell(4, 91, 1))
        self.refused(-1, *full, sell(4, 91, 0))
        self.refused(-1, *NET, sell(4, MILLION + 1, 1))


class ChangeRefusalTest(RefusalTest):
    def test_a_line_that_is_not_there(self):
        self.refused(-3, *NET, rooms(2, 1, 1))
        self.refused(-3, *NET, rooms(11, 1, 1))
        self.refused(-3, opening(0, 9, 2), rooms(0, 1, 1))

    def test_an_order_that_is_not_there(self):
        self.refused(-3, *NET, amend(3, 1))
        self.refused(-3, *NET, amend(39, 0))
        self.refused(-3, opening(0, 9, 2), amend(0, 1))

    def test_minus_1_ahead_of_minus_3(self):
        self.refused(-1, *NET, rooms(2, -1, 1))
        self.refused(-1, *NET, rooms(12, 1, 1))
        self.refused(-1, *NET, amend(3, -1))
        self.refused(-1, *NET, amend(40, 1))

    def test_a_new_net_has_none_of_the_old_lines_and_orders(self):
        self.refused(-3, *NET, opening(0, 9, 3), rooms(0, 1, 1))
        self.refused(-3, *NET, opening(0, 9, 3), amend(0, 1))


class ZoneRefusalTest(RefusalTest):
    def test_a_zone_that_is_not_there(self):
        self.refused(-3, *NET, zone(3))
        self.refused(-3, *NET, zone(5))

    def test_minus_1_ahead_of_minus_3(self):
        self.refused(-1, *NET, zone(6))
        self.refused(-1, *NET, zone(-1))


if __name__ == "__main__":
    unittest.main()
