"""What the tests share: calls by name, nets as plain values, and plain searches that take the words as they stand."""

import unittest
from itertools import product

from zonemarket.market import answers

SELL = 0
BUY = 1


def opening(low, high, zones):
    return [0, low, high, zones]


def line(a, b, forth, back):
    return [1, a, b, forth, back]


def sell(zone, price, amount):
    return [2, zone, SELL, price, amount]


def buy(zone, price, amount):
    return [2, zone, BUY, price, amount]


def rooms(number, forth, back):
    return [3, number, forth, back]


def amend(number, amount):
    return [4, number, amount]


def zone(number):
    return [7, number]


def supporting(prices):
    return [10, *row(prices)]


def check(shares, flows):
    return [11, *row(shares), *row(flows)]


def worth(order):
    return [12, order]


def lineworth(number):
    return [13, number]


def net_at(number, price):
    return [15, number, price]


def tight(t):
    return [16, t]


def shortage(t, group):
    return [17, t, *row(group)]


def unit(number):
    return [18, number]


CLEAR = [5]
RANGE = [6]
MONEY = [8]
WELFARE = [9]
AREAS = [14]
STATE = [19]


def row(numbers):
    return [len(numbers)] + list(numbers)


def split(told):
    """The answers of each call, from the one list that all are given back in."""
    parts = []
    start = 0
    while start < len(told):
        end = start + 1 + told[start]
        parts.append(told[start + 1:end])
        start = end
    assert start == len(told)
    return parts


def ask(*calls):
    """The answers to these calls, one list for each."""
    told = split(answers([number for call in calls for number in call]))
    assert len(told) == len(calls)
    return told


def last(*calls):
    return ask(*calls)[-1]


class AskedTest(unittest.TestCase):
    def hold(self, net, *asked):
        """Each of what is asked is a call and what's answered to it behind the 0. Behind all the net is as it was."""
        told = ask(*net, STATE, *[call for call, _ in asked], STATE)[len(net):]
        for (call, answer), answered in zip(asked, told[1:]):
            self.assertEqual(answered, [0, *answer], call)
        self.assertEqual(told[0], told[-1])


class Sketch:
    """A net as plain values: lines are (a, b, forth, back), orders (zone, side, price, amount)."""

    def __init__(self, low, high, zones, lines, orders):
        self.low = low
        self.high = high
        self.zones = zones
        self.lines = lines
        self.orders = orders

    def calls(self):
        """The calls that make this net. An amount of 0 can only be come by through amend."""
        made = [opening(self.low, self.high, self.zones)]
        made += [[1, *each] for each in self.lines]
        made += [[2, where, side, price, max(amount, 1)] for where, side, price, amount in self.orders]
        made += [amend(k, 0) for k, order in enumerate(self.orders) if order[3] == 0]
        return made

    def ask(self, *calls):
        """The answers to these calls on this net, without those of the calls that make it."""
        made = self.calls()
        told = ask(*made, *calls)
        assert all(answer[0] == 0 for answer in told[:len(made)])
        return told[len(made):]

    def with_order(self, order):
        return Sketch(self.low, self.high, self.zones, self.lines, [*self.orders, order])

    def with_amount(self, number, amount):
        orders = list(self.orders)
        orders[number] = (*orders[number][:3], amount)
        return Sketch(self.low, self.high, self.zones, self.lines, orders)

    def with_rooms(self, number, forth, back):
        lines = list(self.lines)
        lines[number] = (*lines[number][:2], forth, back)
        return Sketch(self.low, self.high, self.zones, lines, self.orders)

    def __repr__(self):
        return f"Sketch({self.low}, {self.high}, {self.zones}, {self.lines}, {self.orders})"


def random_sketch(chance, low, high, zones, lines, orders, room, amount):
    """A net with so many lines and orders, and rooms and amounts up to those told."""
    def draw_line():
        a, b = chance.sample(range(zones), 2)
        return a, b, chance.randint(0, room), chance.randint(0, room)

    def draw_order():
        return chance.randrange(zones), chance.randrange(2), chance.randint(low, high), chance.randint(0, amount)

    drawn = [draw_line() for _ in range(lines if zones > 1 else 0)]
    return Sketch(low, high, zones, drawn, [draw_order() for _ in range(orders)])


def zone_balances(net, shares):
    """For each zone what's sold there less what's bought there."""
    balances = [0] * net.zones
    for (where, side, _, _), share in zip(net.orders, shares):
        balances[where] += share if side == SELL else -share
    return tuple(balances)


def carried_out(net, flows):
    """For each zone what lines carry out of it less what they carry into it."""
    carried = [0] * net.zones
    for (a, b, _, _), flow in zip(net.lines, flows):
        carried[a] += flow
        carried[b] -= flow
    return tuple(carried)


def possible_ones(net):
    by_balances = {}
    for shares in product(*[range(amount + 1) for _, _, _, amount in net.orders]):
        by_balances.setdefault(zone_balances(net, shares), []).append(shares)
    found = []
    for flows in product(*[range(-back, forth + 1) for _, _, forth, back in net.lines]):
        found += [(shares, flows) for shares in by_balances.get(carried_out(net, flows), [])]
    return found


def welfare_of(net, shares):
    return sum(price * share if side == BUY else -price * share
               for (_, side, price, _), share in zip(net.orders, shares))


def keep_greatest(ones, measure):
    greatest = max(measure(one) for one in ones)
    return [one for one in ones if measure(one) == greatest]


def searched_outcome(net):
    ones = keep_greatest(possible_ones(net), lambda one: welfare_of(net, one[0]))
    for k in range(len(net.orders)):
        ones = keep_greatest(ones, lambda one: one[0][k])
    for k in range(len(net.lines)):
        ones = keep_greatest(ones, lambda one: -abs(one[1][k]))
    assert len(ones) == 1
    return ones[0]


def order_supported(side, price, amount, share, zone_price):
    if price < zone_price:
        return share == (amount if side == SELL else 0)
    if price > zone_price:
        return share == (0 if side == SELL else amount)
    return True


def line_supported(forth, back, flow, price_a, price_b):
    if flow < forth and price_b > price_a:
        return False
    return not (flow > 0 - back and price_a > price_b)


def supports(net, shares, flows, prices):
    for (where, side, price, amount), share in zip(net.orders, shares):
        if not order_supported(side, price, amount, share, prices[where]):
            return False
    for (a, b, forth, back), flow in zip(net.lines, flows):
        if not line_supported(forth, back, flow, prices[a], prices[b]):
            return False
    return True


def searched_price_ranges(net, shares, flows):
    lists = [prices for prices in product(range(net.low, net.high + 1), repeat=net.zones)
             if supports(net, shares, flows, prices)]
    return [min(column) for column in zip(*lists)], [max(column) for column in zip(*lists)]


def expected_answers(net, shares, flows, least, greatest):
    """What clear, range, zone (of each zone), money and welfare answer if this is the outcome."""
    told = [(one + other) // 2 for one, other in zip(least, greatest)]
    sides = [(SELL, 0), (BUY, 0)]
    paid, own = dict(sides), dict(sides)
    traded = [dict(sides) for _ in range(net.zones)]
    for (where, side, price, _), share in zip(net.orders, shares):
        paid[side] += share * told[where]
        own[side] += share * price
        traded[where][side] += share
    rents = [flow * (told[b] - told[a]) for (a, b, _, _), flow in zip(net.lines, flows)]
    carried = carried_out(net, flows)
    zones = [[0, told[k], traded[k][SELL], traded[k][BUY], carried[k]] for k in range(net.zones)]
    surpluses = [own[BUY] - paid[BUY], paid[SELL] - own[SELL]]
    return [[0] + row(told) + row(shares) + row(flows), [0] + row(least) + row(greatest), *zones,
            [0, paid[BUY], paid[SELL]] + row(rents), [0, own[BUY] - own[SELL], *surpluses, sum(rents)]]


def asked_answers(net):
    """What the program answers to the calls that expected_answers tells of."""
    return net.ask(CLEAR, RANGE, *[zone(k) for k in range(net.zones)], MONEY, WELFARE)


def state_answer(net):
    return [0, net.low, net.high, net.zones, *row(sum(net.lines, ())), *row(sum(net.orders, ()))]


def support_answer(net, shares, flows, prices):
    inside = all(net.low <= price <= net.high for price in prices)
    return [0, int(inside and supports(net, shares, flows, prices))]


def check_answer(net, welfare, shares, flows):
    """The verdict on these shares and flows if the outcome has this welfare."""
    for k, (_, _, _, amount) in enumerate(net.orders):
        if shares[k] < 0 or shares[k] > amount:
            return [0, 1, k]
    for k, (_, _, forth, back) in enumerate(net.lines):
        if flows[k] < 0 - back or flows[k] > forth:
            return [0, 2, k]
    for k, (balance, carried) in enumerate(zip(zone_balances(net, shares), carried_out(net, flows))):
        if balance != carried:
            return [0, 3, k]
    less = welfare - welfare_of(net, shares)
    return [0, 4, less] if less > 0 else [0, 0, 0]


def worth_answer(net, best_welfare, told, shares, number):
    where, side, price, _ = net.orders[number]
    gain = price - told[where] if side == BUY else told[where] - price
    return [0, best_welfare(net) - best_welfare(net.with_amount(number, 0)), shares[number] * gain]


def lineworth_answer(net, best_welfare, told, flows, number):
    a, b, _, _ = net.lines[number]
    less = best_welfare(net) - best_welfare(net.with_rooms(number, 0, 0))
    return [0, less, flows[number] * (told[b] - told[a])]


def unit_answer(net, best_welfare, number):
    bought = best_welfare(net.with_order((number, BUY, net.high, 1))) - best_welfare(net)
    sold = best_welfare(net.with_order((number, SELL, net.low, 1))) - best_welfare(net)
    return [0, net.high - bought, net.low + sold]


def areas_answer(net, flows):
    """Each zone's area is walked through by itself, from that zone on."""
    slack = [{a, b} for (a, b, forth, back), flow in zip(net.lines, flows) if 0 - back < flow < forth]
    least = []
    for start in range(net.zones):
        reached = {start}
        for _ in range(net.zones):
            for ends in slack:
                if reached & ends:
                    reached |= ends
        least.append(min(reached))
    return [0, *row(least)]


def net_answer(net, number, price):
    here = [(side, at, amount) for where, side, at, amount in net.orders if where == number]
    below = sum(amount for side, at, amount in here if side == SELL and at < price)
    below -= sum(amount for side, at, amount in here if side == BUY and at >= price)
    up_to = sum(amount for side, at, amount in here if side == SELL and at <= price)
    up_to -= sum(amount for side, at, amount in here if side == BUY and at > price)
    return [0, below, up_to]


def shortage_of(net, t, group):
    short = 0
    for where, side, price, amount in net.orders:
        if group[where] and side == BUY and price > t:
            short += amount
        if group[where] and side == SELL and price <= t:
            short -= amount
    for a, b, forth, back in net.lines:
        if group[b] and not group[a]:
            short -= forth
        if group[a] and not group[b]:
            short -= back
    return short


def tight_answer(net, t):
    groups = list(product((0, 1), repeat=net.zones))
    most = max(shortage_of(net, t, group) for group in groups)
    short = [group for group in groups if shortage_of(net, t, group) == most]
    least = [int(all(group[k] for group in short)) for k in range(net.zones)]
    greatest = [int(any(group[k] for group in short)) for k in range(net.zones)]
    return [0, most, *row(least), *row(greatest)]
