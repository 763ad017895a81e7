"""The calls 10 to 19 on many small nets, held against plain searches and against the words taken as they stand."""

import unittest
from itertools import product
from random import Random

from tests.helper import (AREAS, STATE, areas_answer, check, check_answer, lineworth, lineworth_answer, net_answer,
                          net_at, possible_ones, random_sketch, searched_outcome, searched_price_ranges, shortage,
                          shortage_of, state_answer, support_answer, supporting, tight, tight_answer, unit,
                          unit_answer, welfare_of, worth, worth_answer)

MOST_AT_ONCE = 100


def searched_welfare(net):
    return max(welfare_of(net, shares) for shares, _ in possible_ones(net))


class SearchQuestionsTest(unittest.TestCase):
    def hold(self, net, asked):
        """Each of what is asked is a call and its answer. A list has at most 200 calls, so they go by parts."""
        for start in range(0, len(asked), MOST_AT_ONCE):
            part = asked[start:start + MOST_AT_ONCE]
            told = net.ask(*[call for call, _ in part], STATE)
            for (call, answer), answered in zip(part, told):
                self.assertEqual(answered, answer, (net, call))
            self.assertEqual(told[-1], state_answer(net), net)

    def nets(self, seed, times, low, high, zones, lines, orders, room, amount):
        chance = Random(seed)
        for _ in range(times):
            bottom = chance.randint(low, high)
            yield chance, random_sketch(chance, bottom, chance.randint(bottom, high), chance.randint(*zones),
                                        chance.randint(*lines), chance.randint(*orders), room, amount)

    def test_worth_lineworth_and_unit(self):
        for _, net in self.nets(21, 500, -3, 3, (1, 4), (0, 4), (0, 5), 2, 2):
            shares, flows = searched_outcome(net)
            told = [sum(ends) // 2 for ends in zip(*searched_price_ranges(net, shares, flows))]
            asked = [(worth(k), worth_answer(net, searched_welfare, told, shares, k)) for k in range(len(net.orders))]
            asked += [(lineworth(k), lineworth_answer(net, searched_welfare, told, flows, k))
                      for k in range(len(net.lines))]
            asked += [(unit(k), unit_answer(net, searched_welfare, k)) for k in range(net.zones)]
            self.hold(net, asked)

    def test_supports(self):
        for _, net in self.nets(22, 400, -2, 2, (1, 3), (0, 4), (0, 5), 2, 2):
            shares, flows = searched_outcome(net)
            every = list(product(range(net.low - 1, net.high + 2), repeat=net.zones))
            self.hold(net, [(supporting(prices), support_answer(net, shares, flows, prices)) for prices in every])

    def test_check(self):
        verdicts = set()
        for chance, net in self.nets(23, 250, -3, 3, (1, 3), (0, 4), (0, 4), 2, 3):
            welfare = searched_welfare(net)
            drawn = chance.choices(possible_ones(net), k=30) + [searched_outcome(net)]
            for shares, flows in list(drawn):
                numbers = [*shares, *flows]
                for _ in range(chance.randint(1, 2) if numbers else 0):
                    numbers[chance.randrange(len(numbers))] += chance.choice((-2, -1, 1, 2))
                drawn.append((numbers[:len(shares)], numbers[len(shares):]))
            asked = [(check(*one), check_answer(net, welfare, *one)) for one in drawn]
            verdicts |= {answer[1] for _, answer in asked}
            self.hold(net, asked)
        self.assertEqual(verdicts, {0, 1, 2, 3, 4})

    def test_areas(self):
        for _, net in self.nets(24, 300, -1, 1, (1, 5), (1, 6), (0, 5), 2, 2):
            self.hold(net, [(AREAS, areas_answer(net, searched_outcome(net)[1]))])

    def test_net_tight_and_shortage(self):
        for _, net in self.nets(25, 250, -4, 4, (1, 5), (0, 8), (0, 12), 4, 4):
            numbers = list(range(net.low - 2, net.high + 3)) + [-1000000, 1000000]
            asked = [(net_at(k, price), net_answer(net, k, price)) for k in range(net.zones) for price in numbers]
            asked += [(tight(t), tight_answer(net, t)) for t in numbers]
            groups = list(product((0, 1), repeat=net.zones))
            asked += [(shortage(t, group), [0, shortage_of(net, t, group)]) for t in numbers for group in groups]
            self.hold(net, asked)


if __name__ == "__main__":
    unittest.main()
