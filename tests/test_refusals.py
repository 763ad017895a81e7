"""Each refusal of each call, the order in which refusals are looked at, and that a refusal changes nothing."""

import unittest

from tests.helper import (AREAS, CLEAR, MONEY, RANGE, STATE, WELFARE, amend, ask, buy, check, last, line, lineworth,
                          net_at, opening, rooms, sell, shortage, supporting, tight, unit, worth, zone)

BILLION = 1000000000
MILLION = 1000000
FARTHEST = 10 ** 18

NET = [opening(-20, 90, 3), line(0, 1, 5, 2), line(2, 1, 4, 4), sell(0, 10, 9), buy(1, 60, 7), buy(2, 30, 7)]
ALL_ASKED = [STATE, CLEAR, RANGE, zone(0), zone(1), zone(2), MONEY, WELFARE]

# A call that's accepted on NET, and the least and the greatest number that's told for each of its places.
RANGES = (
    (opening(-20, 90, 3), ((-MILLION, MILLION), (-MILLION, MILLION), (1, 6))),
    (line(0, 1, 5, 2), ((0, 5), (0, 5), (0, BILLION), (0, BILLION))),
    (sell(0, 10, 9), ((0, 5), (0, 1), (-MILLION, MILLION), (1, BILLION))),
    (buy(2, 10, 9), ((0, 5), (0, 1), (-MILLION, MILLION), (1, BILLION))),
    (rooms(1, 5, 2), ((0, 11), (0, BILLION), (0, BILLION))),
    (amend(1, 5), ((0, 39), (0, BILLION))),
    (zone(1), ((0, 5),)),
    (worth(1), ((0, 39),)),
    (lineworth(1), ((0, 11),)),
    (net_at(1, 10), ((0, 5), (-MILLION, MILLION))),
    (tight(10), ((-MILLION, MILLION),)),
    (shortage(10, [1, 0, 1]), ((-MILLION, MILLION),)),
    (unit(1), ((0, 5),)),
)

# A call with lists as it's made from one of them, lists that are accepted on NET, and the ends of the numbers' range.
LISTS = (
    (supporting, [10, 60, 60], (-MILLION, MILLION)),
    (lambda shares: check(shares, [5, -2]), [5, 7, 2], (-2 * BILLION, 2 * BILLION)),
    (lambda flows: check([5, 7, 2], flows), [5, -2], (-2 * BILLION, 2 * BILLION)),
    (lambda group: shortage(10, group), [0, 1, 1], (0, 1)),
)


def replaced(call, place, number):
    return call[:place + 1] + [number] + call[place + 2:]


class RefusalTest(unittest.TestCase):
    def refused(self, number, *calls):
        """The last call is refused with this number, and all that can be asked is as it was ahead of it."""
        self.assertEqual(last(*calls), [number], calls)
        if calls[:-1]:
            told = ask(*calls[:-1], *ALL_ASKED, calls[-1], *ALL_ASKED)[len(calls) - 1:]
            self.assertEqual(told[:len(ALL_ASKED)], told[len(ALL_ASKED) + 1:], calls)


class RangeRefusalTest(RefusalTest):
    def test_numbers_outside_their_ranges(self):
        for call, ranges in RANGES:
            self.assertEqual(last(*NET, call)[0], 0)
            for place, (least, greatest) in enumerate(ranges):
                for number in (least - 1, greatest + 1, -FARTHEST, FARTHEST):
                    self.refused(-1, *NET, replaced(call, place, number))

    def test_numbers_at_the_ends_of_their_ranges_are_no_ground_for_minus_1(self):
        for call, ranges in RANGES[1:]:
            for place, ends in enumerate(ranges):
                for number in ends:
                    self.assertNotEqual(last(*NET, replaced(call, place, number)), [-1], (call, place, number))

    def test_all_numbers_as_far_out_as_can_be(self):
        for far in (FARTHEST, -FARTHEST):
            for call, ranges in RANGES:
                self.refused(-1, *NET, call[:1] + [far] * len(ranges) + call[1 + len(ranges):])

    def test_places_without_a_call(self):
        for place in (20, -1, -20, FARTHEST, -FARTHEST):
            self.refused(-1, [place])
            self.refused(-1, *NET, [place])

    def test_open_with_high_below_low(self):
        self.refused(-1, *NET, opening(5, 4, 1))
        self.refused(-1, *NET, opening(-MILLION + 1, -MILLION, 6))
        self.refused(-1, opening(1, 0, 2))

    def test_open_at_the_ends(self):
        for net in (opening(-MILLION, -MILLION, 1), opening(MILLION, MILLION, 6), opening(-MILLION, MILLION, 6)):
            self.assertEqual(last(net), [0])


class NoNetTest(RefusalTest):
    def test_every_call_but_open_asks_for_a_net(self):
        for call in (line(0, 1, 5, 2), sell(0, 10, 9), buy(0, 10, 9), rooms(0, 1, 1), amend(0, 1), *ALL_ASKED,
                     supporting([0]), check([], []), worth(0), lineworth(0), AREAS, net_at(0, 0), tight(0),
                     shortage(0, [0]), unit(0)):
            self.refused(-2, call)

    def test_a_refused_open_opens_nothing(self):
        self.assertEqual(ask(opening(0, 9, 7), CLEAR, opening(3, 2, 1), CLEAR), [[-1], [-2], [-1], [-2]])

    def test_minus_1_ahead_of_minus_2(self):
        for call, ranges in RANGES[1:]:
            self.refused(-2, call)
            for place, (least, greatest) in enumerate(ranges):
                for number in (least - 1, greatest + 1):
                    self.refused(-1, replaced(call, place, number))

    def test_minus_2_ahead_of_minus_3(self):
        for call in (line(0, 0, 5, 2), line(5, 5, 0, 0), sell(5, 10, 9), rooms(11, 1, 1), amend(39, 1), zone(5),
                     supporting([]), supporting([0] * 64), check([0] * 64, [0] * 64), check([], [1]), worth(39),
                     lineworth(11), net_at(5, 0), shortage(0, []), shortage(0, [1] * 64), unit(5)):
            self.refused(-2, call)


class LineRefusalTest(RefusalTest):
    def test_zones_that_are_not_there(self):
        self.refused(-3, *NET, line(3, 0, 1, 1))
        self.refused(-3, *NET, line(0, 3, 1, 1))
        self.refused(-3, *NET, line(5, 4, 1, 1))

    def test_one_zone_twice(self):
        self.refused(-3, *NET, line(1, 1, 1, 1))
        self.refused(-3, opening(0, 1, 1), line(0, 0, 1, 1))

    def test_full(self):
        full = [*NET] + [line(0, 2, 1, 1)] * 10
        self.assertEqual(last(*full), [0, 11])
        self.refused(-5, *full, line(0, 2, 1, 1))

    def test_order(self):
        full = [*NET] + [line(0, 2, 1, 1)] * 10
        self.refused(-3, *full, line(0, 3, 1, 1))
        self.refused(-3, *full, line(2, 2, 1, 1))
        self.refused(-1, *full, line(2, 2, 1, -1))
        self.refused(-1, *NET, line(3, 3, BILLION + 1, 1))


class OrderRefusalTest(RefusalTest):
    def test_a_zone_that_is_not_there(self):
        self.refused(-3, *NET, sell(3, 10, 1))
        self.refused(-3, *NET, buy(5, 10, 1))

    def test_prices_outside_the_bounds(self):
        for price in (-21, 91, -MILLION, MILLION):
            self.refused(-4, *NET, sell(0, price, 1))
            self.refused(-4, *NET, buy(2, price, 1))
        for price in (-20, 90):
            self.assertEqual(last(*NET, sell(0, price, 1)), [0, 3])
            self.assertEqual(last(*NET, buy(2, price, 1)), [0, 3])

    def test_full(self):
        full = [*NET] + [sell(2, 50, 1)] * 37
        self.assertEqual(last(*full), [0, 39])
        self.refused(-5, *full, sell(2, 50, 1))
        self.refused(-5, *full, amend(39, 0), buy(2, 50, 1))

    def test_order(self):
        full = [*NET] + [sell(2, 50, 1)] * 37
        self.refused(-4, *full, sell(2, 91, 1))
        self.refused(-3, *full, sell(4, 91, 1))
        self.refused(-3, *NET, sell(4, 91, 1))
        self.refused(-1, *full, sell(4, 91, 0))
        self.refused(-1, *NET, sell(4, MILLION + 1, 1))


class ChangeRefusalTest(RefusalTest):
    def test_a_line_that_is_not_there(self):
        self.refused(-3, *NET, rooms(2, 1, 1))
        self.refused(-3, *NET, rooms(11, 1, 1))
        self.refused(-3, opening(0, 9, 2), rooms(0, 1, 1))

    def test_an_order_that_is_not_there(self):
        self.refused(-3, *NET, amend(3, 1))
        self.refused(-3, *NET, amend(39, 0))
        self.refused(-3, opening(0, 9, 2), amend(0, 1))

    def test_minus_1_ahead_of_minus_3(self):
        self.refused(-1, *NET, rooms(2, -1, 1))
        self.refused(-1, *NET, rooms(12, 1, 1))
        self.refused(-1, *NET, amend(3, -1))
        self.refused(-1, *NET, amend(40, 1))

    def test_a_new_net_has_none_of_the_old_lines_and_orders(self):
        self.refused(-3, *NET, opening(0, 9, 3), rooms(0, 1, 1))
        self.refused(-3, *NET, opening(0, 9, 3), amend(0, 1))


class ZoneRefusalTest(RefusalTest):
    def test_a_zone_that_is_not_there(self):
        self.refused(-3, *NET, zone(3))
        self.refused(-3, *NET, zone(5))

    def test_minus_1_ahead_of_minus_3(self):
        self.refused(-1, *NET, zone(6))
        self.refused(-1, *NET, zone(-1))


class ListRefusalTest(RefusalTest):
    def test_numbers_outside_their_ranges(self):
        for make, numbers, (least, greatest) in LISTS:
            self.assertEqual(last(*NET, make(numbers))[0], 0)
            for place in range(len(numbers)):
                for number in (least - 1, greatest + 1, -FARTHEST, FARTHEST):
                    wrong = numbers[:place] + [number] + numbers[place + 1:]
                    self.refused(-1, *NET, make(wrong))
                    self.refused(-1, make(wrong))

    def test_numbers_at_the_ends_of_their_ranges(self):
        for make, numbers, ends in LISTS:
            for number in ends:
                self.assertEqual(last(*NET, make([number] * len(numbers)))[0], 0, make(numbers))

    def test_lists_of_more_than_64_numbers(self):
        for make, _, _ in LISTS:
            for count in (65, 66, 100):
                self.refused(-1, *NET, make([0] * count))
                self.refused(-1, make([0] * count))
            self.refused(-1, *NET, make([FARTHEST] * 100))

    def test_a_number_out_of_its_range_in_a_list_of_another_length(self):
        for make, _, (least, greatest) in LISTS:
            self.refused(-1, *NET, make([0] * 63 + [greatest + 1]))
            self.refused(-1, *NET, make([least - 1]))

    def test_each_list_of_check_is_looked_at_for_minus_1_first(self):
        self.refused(-1, *NET, check([], [0] * 65))
        self.refused(-1, *NET, check([0], [0, 2 * BILLION + 1]))
        self.refused(-1, *NET, check([0] * 65, []))
        self.refused(-1, check([], [0] * 65))

    def test_t_out_of_its_range_ahead_of_the_group(self):
        self.refused(-1, *NET, shortage(MILLION + 1, [0]))
        self.refused(-1, *NET, shortage(-MILLION - 1, [0] * 64))


class SupportsRefusalTest(RefusalTest):
    def test_not_one_price_for_each_zone(self):
        for count in (0, 1, 2, 4, 6, 40, 63, 64):
            self.refused(-3, *NET, supporting([10] * count))
        self.refused(-3, *NET, supporting([MILLION, -MILLION]))


class CheckRefusalTest(RefusalTest):
    def test_not_one_share_for_each_order(self):
        for count in (0, 1, 2, 4, 40, 63, 64):
            self.refused(-3, *NET, check([0] * count, [0, 0]))
        self.refused(-3, opening(0, 9, 2), check([0], []))

    def test_not_one_flow_for_each_line(self):
        for count in (0, 1, 3, 12, 63, 64):
            self.refused(-4, *NET, check([0, 0, 0], [0] * count))
        self.refused(-4, opening(0, 9, 2), check([], [0]))

    def test_minus_3_ahead_of_minus_4(self):
        self.refused(-3, *NET, check([0, 0], [0, 0, 0]))
        self.refused(-3, *NET, check([], []))
        self.refused(-3, *NET, check([0] * 64, [0] * 64))

    def test_minus_4_ahead_of_a_verdict(self):
        self.refused(-4, *NET, check([-1, -1, -1], [0]))


class WorthRefusalTest(RefusalTest):
    def test_an_order_that_is_not_there(self):
        for number in (3, 39):
            self.refused(-3, *NET, worth(number))
        self.refused(-3, opening(0, 9, 2), worth(0))
        self.refused(-3, *NET, opening(0, 9, 2), worth(0))

    def test_a_line_that_is_not_there(self):
        for number in (2, 11):
            self.refused(-3, *NET, lineworth(number))
        self.refused(-3, opening(0, 9, 2), lineworth(0))
        self.refused(-3, *NET, opening(0, 9, 2), lineworth(0))


class AskedOfZonesRefusalTest(RefusalTest):
    def test_a_zone_that_is_not_there(self):
        for number in (3, 5):
            self.refused(-3, *NET, net_at(number, 10))
            self.refused(-3, *NET, unit(number))

    def test_minus_1_ahead_of_minus_3(self):
        self.refused(-1, *NET, net_at(3, MILLION + 1))
        self.refused(-1, *NET, net_at(6, 10))
        self.refused(-1, *NET, unit(6))

    def test_a_group_without_one_number_for_each_zone(self):
        for count in (0, 1, 2, 4, 6, 63, 64):
            self.refused(-3, *NET, shortage(10, [1] * count))


if __name__ == "__main__":
    unittest.main()
