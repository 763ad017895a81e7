"""Nets too great for a plain search: the outcome and the prices are held against what marks them out."""

import time
import unittest
from random import Random

from tests.helper import (BUY, CLEAR, MONEY, RANGE, SELL, WELFARE, Sketch, amend, ask, asked_answers, carried_out,
                          expected_answers, random_sketch, rooms, split, supports, zone, zone_balances)
from zonemarket.market import answers

LONGEST_WAIT = 60


def single_steps(net, shares, flows):
    """Each change of one share or flow by 1 that its bounds allow, as (from, to, gain) between zones and one more
    node for all that's outside. A gain is one number that weighs welfare above order 0's share, that above order
    1's, and so on down to the last line's flow."""
    base = 8
    weight = base ** (len(net.orders) + len(net.lines))
    welfare_weight = weight
    steps = []
    for (where, side, price, amount), share in zip(net.orders, shares):
        weight //= base
        ends = (where, net.zones) if side == BUY else (net.zones, where)
        gain = (price if side == BUY else -price) * welfare_weight + weight
        if share < amount:
            steps.append((*ends, gain))
        if share > 0:
            steps.append((*ends[::-1], -gain))
    for (a, b, forth, back), flow in zip(net.lines, flows):
        weight //= base
        if flow < forth:
            steps.append((a, b, weight if flow < 0 else -weight))
        if flow > -back:
            steps.append((b, a, weight if flow > 0 else -weight))
    return steps


def can_be_bettered(net, shares, flows):
    """Whether some ring of single steps gains. If none does, no possible shares and flows are ahead of these."""
    steps = single_steps(net, shares, flows)
    gains = [0] * (net.zones + 1)
    for _ in range(net.zones + 2):
        bettered = False
        for start, end, gain in steps:
            if gains[start] + gain > gains[end]:
                gains[end] = gains[start] + gain
                bettered = True
        if not bettered:
            return False
    return True


def order_bounds(net, shares):
    """For each zone the least and the greatest price that its own orders' shares leave."""
    least, greatest = [net.low] * net.zones, [net.high] * net.zones
    for (where, side, price, amount), share in zip(net.orders, shares):
        if share > 0 and side == SELL or share < amount and side == BUY:
            least[where] = max(least[where], price)
        if share > 0 and side == BUY or share < amount and side == SELL:
            greatest[where] = min(greatest[where], price)
    return least, greatest


def price_ranges(net, shares, flows):
    """The least and the greatest supporting prices: the orders' bounds, carried along the lines that have room."""
    least, greatest = order_bounds(net, shares)
    for _ in range(net.zones):
        for (a, b, forth, back), flow in zip(net.lines, flows):
            if flow < forth:
                least[a], greatest[b] = max(least[a], least[b]), min(greatest[a], greatest[b])
            if flow > -back:
                least[b], greatest[a] = max(least[a], least[b]), min(greatest[a], greatest[b])
    return least, greatest


def greatest_sketch(chance, low, high, room, amount):
    return random_sketch(chance, low, high, 6, 12, 40, room, amount)


class GreatNetTest(unittest.TestCase):
    def hold(self, net):
        answered = asked_answers(net)
        told, shares, flows = split(answered[0][1:])
        for (_, _, _, amount), share in zip(net.orders, shares):
            self.assertTrue(0 <= share <= amount, net)
        for (_, _, forth, back), flow in zip(net.lines, flows):
            self.assertTrue(-back <= flow <= forth, net)
        self.assertEqual(zone_balances(net, shares), carried_out(net, flows), net)
        self.assertFalse(can_be_bettered(net, shares, flows), net)
        self.assertTrue(supports(net, shares, flows, told), net)
        least, greatest = price_ranges(net, shares, flows)
        self.assertEqual(answered, expected_answers(net, shares, flows, least, greatest), net)

    def test_greatest_rooms_amounts_and_prices(self):
        chance = Random(11)
        for _ in range(40):
            self.hold(greatest_sketch(chance, -1000000, 1000000, 1000000000, 1000000000))

    def test_narrow_rooms(self):
        chance = Random(12)
        for _ in range(40):
            self.hold(greatest_sketch(chance, -500, 3000, 40, 60))

    def test_many_equal_prices(self):
        chance = Random(13)
        for _ in range(80):
            self.hold(greatest_sketch(chance, -2, 1, chance.randint(1, 60), chance.randint(1, 20)))

    def test_one_price_for_all(self):
        chance = Random(14)
        for _ in range(20):
            self.hold(greatest_sketch(chance, 7, 7, 30, 30))

    def test_amounts_and_rooms_all_at_their_greatest(self):
        orders = [(k % 6, k // 6 % 2, 1000000 if k % 4 < 2 else -1000000, 1000000000) for k in range(40)]
        lines = [(k % 6, (k + 1 + k // 6) % 6, 1000000000, 1000000000) for k in range(12)]
        self.hold(Sketch(-1000000, 1000000, 6, lines, orders))

    def test_middling_nets(self):
        chance = Random(15)
        for _ in range(300):
            low = chance.randint(-9, 3)
            self.hold(random_sketch(chance, low, chance.randint(low, 5), chance.randint(1, 6), chance.randint(0, 12),
                                    chance.randint(0, 25), chance.randint(0, 9), chance.randint(0, 9)))


class LongListTest(unittest.TestCase):
    def asked_on_the_greatest_net(self):
        chance = Random(16)
        net = greatest_sketch(chance, -1000000, 1000000, 1000000000, 1000000000)
        net.orders = [(where, side, price, amount + 1) for where, side, price, amount in net.orders]
        calls = net.calls()
        questions = [CLEAR, RANGE, MONEY, WELFARE]
        while len(calls) < 200:
            calls.append(amend(chance.randrange(40), chance.randint(0, 1000000000)))
            calls.append(rooms(chance.randrange(12), chance.randint(0, 1000000000), chance.randint(0, 1000000000)))
            calls += [CLEAR, CLEAR, questions[len(calls) % 4], zone(len(calls) % 6)]
        return calls[:200]

    def test_200_calls_on_the_greatest_net_come_to_their_end(self):
        calls = self.asked_on_the_greatest_net()
        start = time.monotonic()
        told = ask(*calls)
        self.assertLess(time.monotonic() - start, LONGEST_WAIT)
        self.assertEqual(len(told), 200)
        self.assertTrue(all(answer[0] == 0 for answer in told))

    def test_clear_alone_over_and_over(self):
        chance = Random(17)
        calls = greatest_sketch(chance, 0, 3, 50, 50).calls()
        calls += [CLEAR] * (200 - len(calls))
        start = time.monotonic()
        told = split(answers(sum(calls, [])))
        self.assertLess(time.monotonic() - start, LONGEST_WAIT)
        self.assertTrue(all(answer == told[-1] for call, answer in zip(calls, told) if call == CLEAR))


if __name__ == "__main__":
    unittest.main()
