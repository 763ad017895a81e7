"""What the tests share: calls by name, nets as plain values, and plain searches that take the words as they stand."""

from itertools import product

from zonemarket.market import answers

SELL = 0
BUY = 1


def opening(low, high, zones):
    return [0, low, high, zones]


def line(a, b, forth, back):
    return [1, a, b, forth, back]


def sell(zone, price, amount):
    return [2, zone, SELL, price, amount]


def buy(zone, price, amount):
    return [2, zone, BUY, price, amount]


def rooms(number, forth, back):
    return [3, number, forth, back]


def amend(number, amount):
    return [4, number, amount]


def zone(number):
    return [7, number]


CLEAR = [5]
RANGE = [6]
MONEY = [8]
WELFARE = [9]


def split(told):
    """The answers of each call, from the one list that all are given back in."""
    parts = []
    start = 0
    while start < len(told):
        end = start + 1 + told[start]
        parts.append(told[start + 1:end])
        start = end
    assert start == len(told)
    return parts


def ask(*calls):
    """The answers to these calls, one list for each."""
    told = split(answers([number for call in calls for number in call]))
    assert len(told) == len(calls)
    return told


def last(*calls):
    return ask(*calls)[-1]


def row(numbers):
    return [len(numbers)] + list(numbers)


class Sketch:
    """A net as plain values: lines are (a, b, forth, back), orders (zone, side, price, amount)."""

    def __init__(self, low, high, zones, lines, orders):
        self.low = low
        self.high = high
        self.zones = zones
        self.lines = lines
        self.orders = orders

    def calls(self):
        """The calls that make this net. An amount of 0 can only be come by through amend."""
        made = [opening(self.low, self.high, self.zones)]
        made += [[1, *each] for each in self.lines]
        made += [[2, where, side, price, max(amount, 1)] for where, side, price, amount in self.orders]
        made += [amend(k, 0) for k, order in enumerate(self.orders) if order[3] == 0]
        return made

    def ask(self, *calls):
        """The answers to these calls on this net, without those of the calls that make it."""
        made = self.calls()
        told = ask(*made, *calls)
        assert all(answer[0] == 0 for answer in told[:len(made)])
        return told[len(made):]

    def __repr__(self):
        return f"Sketch({self.low}, {self.high}, {self.zones}, {self.lines}, {self.orders})"


def random_sketch(chance, low, high, zones, lines, orders, room, amount):
    """A net with so many lines and orders, and rooms and amounts up to those told."""
    def draw_line():
        a, b = chance.sample(range(zones), 2)
        return a, b, chance.randint(0, room), chance.randint(0, room)

    def draw_order():
        return chance.randrange(zones), chance.randrange(2), chance.randint(low, high), chance.randint(0, amount)

    drawn = [draw_line() for _ in range(lines if zones > 1 else 0)]
    return Sketch(low, high, zones, drawn, [draw_order() for _ in range(orders)])


def zone_balances(net, shares):
    """For each zone what's sold there less what's bought there."""
    balances = [0] * net.zones
    for (where, side, _, _), share in zip(net.orders, shares):
        balances[where] += share if side == SELL else -share
    return tuple(balances)


def carried_out(net, flows):
    """For each zone what lines carry out of it less what they carry into it."""
    carried = [0] * net.zones
    for (a, b, _, _), flow in zip(net.lines, flows):
        carried[a] += flow
        carried[b] -= flow
    return tuple(carried)


def possible_ones(net):
    by_balances = {}
    for shares in product(*[range(amount + 1) for _, _, _, amount in net.orders]):
        by_balances.setdefault(zone_balances(net, shares), []).append(shares)
    found = []
    for flows in product(*[range(-back, forth + 1) for _, _, forth, back in net.lines]):
        found += [(shares, flows) for shares in by_balances.get(carried_out(net, flows), [])]
    return found


def welfare_of(net, shares):
    return sum(price * share if side == BUY else -price * share
               for (_, side, price, _), share in zip(net.orders, shares))


def keep_greatest(ones, measure):
    greatest = max(measure(one) for one in ones)
    return [one for one in ones if measure(one) == greatest]


def searched_outcome(net):
    ones = keep_greatest(possible_ones(net), lambda one: welfare_of(net, one[0]))
    for k in range(len(net.orders)):
        ones = keep_greatest(ones, lambda one: one[0][k])
    for k in range(len(net.lines)):
        ones = keep_greatest(ones, lambda one: -abs(one[1][k]))
    assert len(ones) == 1
    return ones[0]


def order_supported(side, price, amount, share, zone_price):
    if price < zone_price:
        return share == (amount if side == SELL else 0)
    if price > zone_price:
        return share == (0 if side == SELL else amount)
    return True


def line_supported(forth, back, flow, price_a, price_b):
    if flow < forth and price_b > price_a:
        return False
    return not (flow > 0 - back and price_a > price_b)


def supports(net, shares, flows, prices):
    for (where, side, price, amount), share in zip(net.orders, shares):
        if not order_supported(side, price, amount, share, prices[where]):
            return False
    for (a, b, forth, back), flow in zip(net.lines, flows):
        if not line_supported(forth, back, flow, prices[a], prices[b]):
            return False
    return True


def searched_price_ranges(net, shares, flows):
    lists = [prices for prices in product(range(net.low, net.high + 1), repeat=net.zones)
             if supports(net, shares, flows, prices)]
    return [min(column) for column in zip(*lists)], [max(column) for column in zip(*lists)]


def expected_answers(net, shares, flows, least, greatest):
    """What clear, range, zone (of each zone), money and welfare answer if this is the outcome."""
    told = [(one + other) // 2 for one, other in zip(least, greatest)]
    sides = [(SELL, 0), (BUY, 0)]
    paid, own = dict(sides), dict(sides)
    traded = [dict(sides) for _ in range(net.zones)]
    for (where, side, price, _), share in zip(net.orders, shares):
        paid[side] += share * told[where]
        own[side] += share * price
        traded[where][side] += share
    rents = [flow * (told[b] - told[a]) for (a, b, _, _), flow in zip(net.lines, flows)]
    carried = carried_out(net, flows)
    zones = [[0, told[k], traded[k][SELL], traded[k][BUY], carried[k]] for k in range(net.zones)]
    surpluses = [own[BUY] - paid[BUY], paid[SELL] - own[SELL]]
    return [[0] + row(told) + row(shares) + row(flows), [0] + row(least) + row(greatest), *zones,
            [0, paid[BUY], paid[SELL]] + row(rents), [0, own[BUY] - own[SELL], *surpluses, sum(rents)]]


def asked_answers(net):
    """What the program answers to the calls that expected_answers tells of."""
    return net.ask(CLEAR, RANGE, *[zone(k) for k in range(net.zones)], MONEY, WELFARE)
