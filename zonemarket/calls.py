"""The calls on a net that is open. Each answers 0 and what's told with it, or the number of its refusal alone."""

from zonemarket.areas import find_areas
from zonemarket.check import find_verdict
from zonemarket.net import BUYS, SELLS, Line, Order
from zonemarket.outcome import find_outcome, is_supported
from zonemarket.prices import find_prices
from zonemarket.shortage import Shortages, group_shortage, zone_shortages
from zonemarket.sums import carried_out, line_rents, order_surpluses, payments, shares_welfare, side_surplus
from zonemarket.sums import zone_shares
from zonemarket.welfare import greatest_welfare, with_order, without_line, without_order

UNKNOWN = -3
MISCOUNTED = -3
OUTSIDE_BOUNDS = -4
FLOWS_MISCOUNTED = -4
FULL = -5

MOST_LINES = 12
MOST_ORDERS = 40


def row(numbers):
    return [len(numbers)] + numbers


def add_line(net, call):
    first = call.numbers[0]
    second = call.numbers[1]
    if first >= net.zones or second >= net.zones or first == second:
        return [UNKNOWN]
    if len(net.lines) == MOST_LINES:
        return [FULL]
    net.lines.append(Line(first, second, call.numbers[2], call.numbers[3]))
    return [0, len(net.lines) - 1]


def add_order(net, call):
    zone = call.numbers[0]
    price = call.numbers[2]
    if zone >= net.zones:
        return [UNKNOWN]
    if not net.low <= price <= net.high:
        return [OUTSIDE_BOUNDS]
    if len(net.orders) == MOST_ORDERS:
        return [FULL]
    net.orders.append(Order(zone, call.numbers[1], price, call.numbers[3]))
    return [0, len(net.orders) - 1]


def change_rooms(net, call):
    if call.numbers[0] >= len(net.lines):
        return [UNKNOWN]
    line = net.lines[call.numbers[0]]
    line.forth = call.numbers[1]
    line.back = call.numbers[2]
    return [0]


def amend_order(net, call):
    if call.numbers[0] >= len(net.orders):
        return [UNKNOWN]
    order = net.orders[call.numbers[0]]
    order.amount = call.numbers[1]
    return [0]


def tell_clearing(net, call):
    outcome = find_outcome(net)
    return [0] + row(outcome.told) + row(outcome.shares) + row(outcome.flows)


def tell_price_ranges(net, call):
    prices = find_prices(net)
    return [0] + row(prices.least) + row(prices.greatest)


def tell_zone(net, call):
    zone = call.numbers[0]
    if zone >= net.zones:
        return [UNKNOWN]
    outcome = find_outcome(net)
    sold = zone_shares(net, outcome.shares, zone, SELLS)
    bought = zone_shares(net, outcome.shares, zone, BUYS)
    return [0, outcome.told[zone], sold, bought, carried_out(net, outcome.flows, zone)]


def tell_money(net, call):
    outcome = find_outcome(net)
    return [0, payments(net, outcome, BUYS), payments(net, outcome, SELLS)] + row(line_rents(net, outcome))


def tell_welfare(net, call):
    outcome = find_outcome(net)
    surpluses = [side_surplus(net, outcome, BUYS), side_surplus(net, outcome, SELLS)]
    return [0, shares_welfare(net, outcome.shares)] + surpluses + [sum(line_rents(net, outcome))]


def tell_support(net, call):
    prices = call.lists[0]
    if len(prices) != net.zones:
        return [MISCOUNTED]
    if not all([net.low <= price <= net.high for price in prices]):
        return [0, 0]
    return [0, 1 if is_supported(net, find_outcome(net), prices) else 0]


def tell_verdict(net, call):
    shares = call.lists[0]
    flows = call.lists[1]
    if len(shares) != len(net.orders):
        return [MISCOUNTED]
    if len(flows) != len(net.lines):
        return [FLOWS_MISCOUNTED]
    return [0] + find_verdict(net, shares, flows)


def tell_order_worth(net, call):
    number = call.numbers[0]
    if number >= len(net.orders):
        return [UNKNOWN]
    outcome = find_outcome(net)
    worth = shares_welfare(net, outcome.shares) - greatest_welfare(without_order(net, number))
    return [0, worth, order_surpluses(net, outcome)[number]]


def tell_line_worth(net, call):
    number = call.numbers[0]
    if number >= len(net.lines):
        return [UNKNOWN]
    outcome = find_outcome(net)
    worth = shares_welfare(net, outcome.shares) - greatest_welfare(without_line(net, number))
    return [0, worth, line_rents(net, outcome)[number]]


def tell_areas(net, call):
    return [0] + row(find_areas(net, find_outcome(net).flows))


# Prices are whole, so what's sold below a price, less what's bought at it or above, is what's left one below it.
def tell_zone_net(net, call):
    zone = call.numbers[0]
    price = call.numbers[1]
    if zone >= net.zones:
        return [UNKNOWN]
    return [0, -zone_shortages(net, price - 1)[zone], -zone_shortages(net, price)[zone]]


def tell_tightness(net, call):
    tight = Shortages(net).tightness(call.numbers[0])
    return [0, tight.most] + row(tight.least_group) + row(tight.greatest_group)


def tell_shortage(net, call):
    group = call.lists[0]
    if len(group) != net.zones:
        return [MISCOUNTED]
    return [0, group_shortage(net, group, call.numbers[0])]


def tell_unit(net, call):
    zone = call.numbers[0]
    if zone >= net.zones:
        return [UNKNOWN]
    welfare = greatest_welfare(net)
    bought = greatest_welfare(with_order(net, Order(zone, BUYS, net.high, 1))) - welfare
    sold = greatest_welfare(with_order(net, Order(zone, SELLS, net.low, 1))) - welfare
    return [0, net.high - bought, net.low + sold]


def tell_state(net, call):
    lines = []
    for line in net.lines:
        lines.extend([line.first, line.second, line.forth, line.back])
    orders = []
    for order in net.orders:
        orders.extend([order.zone, order.side, order.price, order.amount])
    return [0, net.low, net.high, net.zones] + row(lines) + row(orders)


CALLS = {
    1: add_line,
    2: add_order,
    3: change_rooms,
    4: amend_order,
    5: tell_clearing,
    6: tell_price_ranges,
    7: tell_zone,
    8: tell_money,
    9: tell_welfare,
    10: tell_support,
    11: tell_verdict,
    12: tell_order_worth,
    13: tell_line_worth,
    14: tell_areas,
    15: tell_zone_net,
    16: tell_tightness,
    17: tell_shortage,
    18: tell_unit,
    19: tell_state,
}


def answer_call(net, call):
    return CALLS[call.place](net, call)
