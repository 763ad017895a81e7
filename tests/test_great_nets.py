"""Nets too great for a plain search: the outcome and the prices are held against what marks them out."""

import time
import unittest
from random import Random

from tests.helper import (AREAS, BUY, CLEAR, MONEY, RANGE, SELL, STATE, WELFARE, Sketch, amend, areas_answer, ask,
                          asked_answers, carried_out, check, check_answer, expected_answers, lineworth,
                          lineworth_answer, net_answer, net_at, random_sketch, rooms, shortage, shortage_of, split,
                          state_answer, support_answer, supporting, supports, tight, tight_answer, unit, unit_answer,
                          welfare_of, worth, worth_answer, zone, zone_balances)
from zonemarket.market import answers

LONGEST_WAIT = 20


def single_steps(net, shares, flows):
    """Each change of one share or flow by 1 that its bounds allow, as (from, to, gain) between zones and one more
    node for all that's outside. A gain is one number that weighs welfare above order 0's share, that above order
    1's, and so on down to the last line's flow."""
    base = 8
    weight = base ** (len(net.orders) + len(net.lines))
    welfare_weight = weight
    steps = []
    for (where, side, price, amount), share in zip(net.orders, shares):
        weight //= base
        ends = (where, net.zones) if side == BUY else (net.zones, where)
        gain = (price if side == BUY else -price) * welfare_weight + weight
        if share < amount:
            steps.append((*ends, gain))
        if share > 0:
            steps.append((*ends[::-1], -gain))
    for (a, b, forth, back), flow in zip(net.lines, flows):
        weight //= base
        if flow < forth:
            steps.append((a, b, weight if flow < 0 else -weight))
        if flow > -back:
            steps.append((b, a, weight if flow > 0 else -weight))
    return steps


def can_be_bettered(net, shares, flows):
    """Whether some ring of single steps gains. If none does, no possible shares and flows are ahead of these."""
    steps = single_steps(net, shares, flows)
    gains = [0] * (net.zones + 1)
    for _ in range(net.zones + 2):
        bettered = False
        for start, end, gain in steps:
            if gains[start] + gain > gains[end]:
                gains[end] = gains[start] + gain
                bettered = True
        if not bettered:
            return False
    return True


def order_bounds(net, shares):
    """For each zone the least and the greatest price that its own orders' shares leave."""
    least, greatest = [net.low] * net.zones, [net.high] * net.zones
    for (where, side, price, amount), share in zip(net.orders, shares):
        if share > 0 and side == SELL or share < amount and side == BUY:
            least[where] = max(least[where], price)
        if share > 0 and side == BUY or share < amount and side == SELL:
            greatest[where] = min(greatest[where], price)
    return least, greatest


def price_ranges(net, shares, flows):
    """The least and the greatest supporting prices: the orders' bounds, carried along the lines that have room."""
    least, greatest = order_bounds(net, shares)
    for _ in range(net.zones):
        for (a, b, forth, back), flow in zip(net.lines, flows):
            if flow < forth:
                least[a], greatest[b] = max(least[a], least[b]), min(greatest[a], greatest[b])
            if flow > -back:
                least[b], greatest[a] = max(least[a], least[b]), min(greatest[a], greatest[b])
    return least, greatest


def residual_steps(net, moved):
    """Each order and line that can still go up or down, as (from, to, gain a unit, how far, its place, up or down)."""
    steps = []
    for k, (where, side, price, amount) in enumerate(net.orders):
        ends = (where, net.zones) if side == BUY else (net.zones, where)
        gain = price if side == BUY else -price
        steps.append((*ends, gain, amount - moved[k], k, 1))
        steps.append((*ends[::-1], -gain, moved[k], k, -1))
    for k, (a, b, forth, back) in enumerate(net.lines, start=len(net.orders)):
        steps.append((a, b, 0, forth - moved[k], k, 1))
        steps.append((b, a, 0, moved[k] + back, k, -1))
    return [step for step in steps if step[3] > 0]


def gaining_ring(net, moved):
    """A ring of steps that gains, or None: the steps by which gains still grow lead back to such a ring."""
    gains, by = [0] * (net.zones + 1), [None] * (net.zones + 1)
    steps = residual_steps(net, moved)
    for _ in range(net.zones + 2):
        grown = None
        for step in steps:
            if gains[step[0]] + step[2] > gains[step[1]]:
                gains[step[1]] = gains[step[0]] + step[2]
                by[step[1]] = step
                grown = step[1]
        if grown is None:
            return None
    for _ in range(net.zones + 1):
        grown = by[grown][0]
    ring = [by[grown]]
    while ring[-1][0] != grown:
        ring.append(by[ring[-1][0]])
    return ring


def best_welfare(net):
    """The greatest welfare of all possible shares and flows: rings that gain are gone round until none is left."""
    moved = [0] * (len(net.orders) + len(net.lines))
    ring = gaining_ring(net, moved)
    while ring is not None:
        far = min(step[3] for step in ring)
        for step in ring:
            moved[step[4]] += step[5] * far
        ring = gaining_ring(net, moved)
    return welfare_of(net, moved[:len(net.orders)])


def greatest_sketch(chance, low, high, room, amount):
    return random_sketch(chance, low, high, 6, 12, 40, room, amount)


class GreatNetTest(unittest.TestCase):
    def hold(self, net):
        answered = asked_answers(net)
        told, shares, flows = split(answered[0][1:])
        for (_, _, _, amount), share in zip(net.orders, shares):
            self.assertTrue(0 <= share <= amount, net)
        for (_, _, forth, back), flow in zip(net.lines, flows):
            self.assertTrue(-back <= flow <= forth, net)
        self.assertEqual(zone_balances(net, shares), carried_out(net, flows), net)
        self.assertFalse(can_be_bettered(net, shares, flows), net)
        self.assertTrue(supports(net, shares, flows, told), net)
        least, greatest = price_ranges(net, shares, flows)
        self.assertEqual(answered, expected_answers(net, shares, flows, least, greatest), net)

    def test_greatest_rooms_amounts_and_prices(self):
        chance = Random(11)
        for _ in range(40):
            self.hold(greatest_sketch(chance, -1000000, 1000000, 1000000000, 1000000000))

    def test_narrow_rooms(self):
        chance = Random(12)
        for _ in range(40):
            self.hold(greatest_sketch(chance, -500, 3000, 40, 60))

    def test_many_equal_prices(self):
        chance = Random(13)
        for _ in range(80):
            self.hold(greatest_sketch(chance, -2, 1, chance.randint(1, 60), chance.randint(1, 20)))

    def test_one_price_for_all(self):
        chance = Random(14)
        for _ in range(20):
            self.hold(greatest_sketch(chance, 7, 7, 30, 30))

    def test_amounts_and_rooms_all_at_their_greatest(self):
        orders = [(k % 6, k // 6 % 2, 1000000 if k % 4 < 2 else -1000000, 1000000000) for k in range(40)]
        lines = [(k % 6, (k + 1 + k // 6) % 6, 1000000000, 1000000000) for k in range(12)]
        self.hold(Sketch(-1000000, 1000000, 6, lines, orders))

    def test_middling_nets(self):
        chance = Random(15)
        for _ in range(300):
            low = chance.randint(-9, 3)
            self.hold(random_sketch(chance, low, chance.randint(low, 5), chance.randint(1, 6), chance.randint(0, 12),
                                    chance.randint(0, 25), chance.randint(0, 9), chance.randint(0, 9)))


class GreatQuestionsTest(unittest.TestCase):
    def hold(self, net, chance):
        told, shares, flows = split(net.ask(CLEAR)[0][1:])
        asked = [(worth(k), worth_answer(net, best_welfare, told, shares, k))
                 for k in chance.sample(range(len(net.orders)), 5)]
        asked += [(lineworth(k), lineworth_answer(net, best_welfare, told, flows, k))
                  for k in chance.sample(range(len(net.lines)), 3)]
        asked += [(unit(k), unit_answer(net, best_welfare, k)) for k in range(net.zones)]
        asked += [(AREAS, areas_answer(net, flows))]
        asked += self.support_questions(net, chance, told, shares, flows)
        asked += self.check_questions(net, chance, shares, flows)
        asked += self.shortage_questions(net, chance)
        answered = net.ask(*[call for call, _ in asked], STATE)
        for (call, answer), given in zip(asked, answered):
            self.assertEqual(given, answer, (net, call))
        self.assertEqual(answered[-1], state_answer(net))

    def support_questions(self, net, chance, told, shares, flows):
        lists = [told, *price_ranges(net, shares, flows)]
        for prices in list(lists):
            lists += [[price + chance.randint(-1, 1) for price in prices] for _ in range(3)]
        inside = [[min(max(price, -1000000), 1000000) for price in prices] for prices in lists]
        return [(supporting(prices), support_answer(net, shares, flows, prices)) for prices in inside]

    def check_questions(self, net, chance, shares, flows):
        welfare = best_welfare(net)
        ones = [(shares, flows), ([0] * 40, [0] * 12), ([amount for _, _, _, amount in net.orders], flows),
                (shares, [forth + 1 for _, _, forth, _ in net.lines]), ([-2000000000] * 40, [2000000000] * 12)]
        order, moved = chance.randrange(40), list(shares)
        moved[order] += chance.choice((-1, 1))
        return [(check(*one), check_answer(net, welfare, *one)) for one in [*ones, (moved, flows)]]

    def shortage_questions(self, net, chance):
        asked = []
        at_an_order = chance.choice(net.orders)[2]
        for t in (at_an_order, chance.randint(net.low, net.high), net.low, net.high, -1000000, 1000000):
            group = [chance.randrange(2) for _ in range(net.zones)]
            asked += [(shortage(t, group), [0, shortage_of(net, t, group)]), (tight(t), tight_answer(net, t))]
            asked += [(net_at(k, t), net_answer(net, k, t)) for k in range(net.zones)]
        return asked

    def test_greatest_rooms_amounts_and_prices(self):
        chance = Random(31)
        for _ in range(8):
            self.hold(greatest_sketch(chance, -1000000, 1000000, 1000000000, 1000000000), chance)

    def test_narrow_rooms(self):
        chance = Random(32)
        for _ in range(10):
            self.hold(greatest_sketch(chance, -500, 3000, 40, 60), chance)

    def test_many_equal_prices(self):
        chance = Random(33)
        for _ in range(15):
            self.hold(greatest_sketch(chance, -2, 1, chance.randint(1, 60), chance.randint(1, 20)), chance)

    def test_amounts_and_rooms_all_at_their_greatest(self):
        chance = Random(34)
        orders = [(k % 6, k // 6 % 2, 1000000 if k % 4 < 2 else -1000000, 1000000000) for k in range(40)]
        lines = [(k % 6, (k + 1 + k // 6) % 6, 1000000000, 1000000000) for k in range(12)]
        self.hold(Sketch(-1000000, 1000000, 6, lines, orders), chance)

    def test_a_unit_costs_the_greatest_price_and_is_worth_the_least(self):
        chance = Random(35)
        for _ in range(20):
            net = greatest_sketch(chance, -20, 20, chance.randint(0, 60), chance.randint(1, 60))
            told = net.ask(RANGE, *[unit(k) for k in range(6)])
            least, greatest = split(told[0][1:])
            self.assertEqual(told[1:], [[0, *ends] for ends in zip(greatest, least)], net)

    def test_greatest_worth(self):
        orders = [(0, SELL, -1000000, 1000000000)] * 39 + [(0, BUY, 1000000, 1000000000)]
        net = Sketch(-1000000, 1000000, 2, [(1, 0, 1000000000, 0)], orders)
        self.assertEqual(net.ask(worth(39), worth(0), lineworth(0), unit(0), unit(1)),
                         [[0, 2 * 10 ** 15, 2 * 10 ** 15], [0, 0, 0], [0, 0, 0], [0, -1000000, -1000000],
                          [0, 1000000, -1000000]])


# Each call that changes nothing, as it's accepted on a net of six zones, 12 lines and 40 orders.
QUESTIONS = [CLEAR, RANGE, zone(5), MONEY, WELFARE, supporting([0] * 6), check([0] * 40, [0] * 12), worth(39),
             lineworth(11), AREAS, net_at(5, 1), tight(1), shortage(1, [0, 1] * 3), unit(5), STATE]


class LongListTest(unittest.TestCase):
    def asked_on_the_greatest_net(self):
        chance = Random(16)
        net = greatest_sketch(chance, -1000000, 1000000, 1000000000, 1000000000)
        net.orders = [(where, side, price, amount + 1) for where, side, price, amount in net.orders]
        calls = net.calls()
        while len(calls) < 200:
            calls.append(amend(chance.randrange(40), chance.randint(0, 1000000000)))
            calls.append(rooms(chance.randrange(12), chance.randint(0, 1000000000), chance.randint(0, 1000000000)))
            calls += chance.sample(QUESTIONS, 8)
        return calls[:200]

    def test_200_calls_on_the_greatest_net_come_to_their_end(self):
        calls = self.asked_on_the_greatest_net()
        start = time.monotonic()
        told = ask(*calls)
        self.assertLess(time.monotonic() - start, LONGEST_WAIT)
        self.assertEqual(len(told), 200)
        self.assertTrue(all(answer[0] == 0 for answer in told))

    def test_one_call_over_and_over(self):
        made = greatest_sketch(Random(17), -1000000, 1000000, 1000000000, 1000000000).calls()
        for question in QUESTIONS:
            calls = made + [question] * (200 - len(made))
            start = time.monotonic()
            told = split(answers(sum(calls, [])))
            self.assertLess(time.monotonic() - start, LONGEST_WAIT)
            self.assertEqual(told[-1][0], 0)
            self.assertTrue(all(answer == told[-1] for answer in told[len(made):]))

    def test_the_longest_list_of_numbers(self):
        calls = [[0, 0, 9, 1]] + [[11, 40] + [0] * 40 + [36] + [0] * 36] * 199
        numbers = sum(calls, [])
        self.assertLessEqual(len(numbers), 16000)
        self.assertTrue(answers(numbers) == [1, 0] + [1, -3] * 199)


if __name__ == "__main__":
    unittest.main()
