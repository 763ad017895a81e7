"""Many small nets, held against a plain search through all shares and flows and through all lists of prices."""

import unittest
from itertools import product
from random import Random

from tests.helper import (BUY, SELL, Sketch, asked_answers, expected_answers, random_sketch, searched_outcome,
                          searched_price_ranges, supports)


class SearchTest(unittest.TestCase):
    def hold(self, net):
        shares, flows = searched_outcome(net)
        least, greatest = searched_price_ranges(net, shares, flows)
        expected = expected_answers(net, shares, flows, least, greatest)
        answered = asked_answers(net)
        self.assertEqual(answered, expected, net)
        self.assertTrue(supports(net, shares, flows, answered[0][2:2 + net.zones]), net)

    def hold_random(self, seed, times, low, high, zones, lines, orders, room, amount):
        chance = Random(seed)
        for _ in range(times):
            bottom = chance.randint(low, high)
            net = random_sketch(chance, bottom, chance.randint(bottom, high), chance.randint(*zones),
                                chance.randint(*lines), chance.randint(*orders), room, amount)
            self.hold(net)

    def test_one_zone(self):
        self.hold_random(1, 600, -4, 4, (1, 1), (0, 0), (0, 5), 0, 4)

    def test_two_zones_with_several_lines_between_them(self):
        self.hold_random(2, 800, -3, 3, (2, 2), (1, 4), (1, 4), 2, 3)

    def test_three_zones(self):
        self.hold_random(3, 800, -3, 2, (3, 3), (1, 4), (2, 5), 2, 3)

    def test_four_zones(self):
        self.hold_random(4, 300, -2, 2, (4, 4), (3, 6), (3, 6), 1, 2)

    def test_six_zones(self):
        self.hold_random(5, 200, -1, 1, (5, 6), (4, 7), (3, 7), 1, 2)

    def test_equal_prices_everywhere(self):
        self.hold_random(6, 500, 0, 1, (2, 3), (2, 4), (3, 6), 2, 2)

    def test_all_sorts_of_a_few_orders_and_rooms(self):
        kinds = list(product((0, 1), (SELL, BUY), (-1, 0), (2,)))
        for forth, back, first, second in product((0, 1, 3), (0, 2), kinds, kinds):
            self.hold(Sketch(-1, 1, 2, [(0, 1, forth, back)], [first, second, (1, BUY, 0, 1)]))

    def test_rings_of_lines(self):
        chance = Random(7)
        for _ in range(400):
            ring = [(k, (k + 1) % 3, chance.randint(0, 2), chance.randint(0, 2)) for k in range(3)]
            orders = random_sketch(chance, -2, 1, 3, 0, 4, 0, 3).orders
            self.hold(Sketch(-2, 1, 3, chance.sample(ring, 3), orders))


if __name__ == "__main__":
    unittest.main()
