"""The calls on a net that is open. Each answers 0 and what's told with it, or the number of its refusal alone."""

from zonemarket.net import BUYS, SELLS, Line, Order
from zonemarket.outcome import find_outcome
from zonemarket.prices import find_prices
from zonemarket.sums import buyer_surplus, carried_out, line_rents, outcome_welfare, payments, seller_surplus
from zonemarket.sums import zone_shares

UNKNOWN = -3
OUTSIDE_BOUNDS = -4
FULL = -5

MOST_LINES = 12
MOST_ORDERS = 40


def row(numbers):
    return [len(numbers)] + numbers


def add_line(net, call):
    first = call.numbers[0]
    second = call.numbers[1]
    if first >= net.zones or second >= net.zones or first == second:
        return [UNKNOWN]
    if len(net.lines) == MOST_LINES:
        return [FULL]
    net.lines.append(Line(first, second, call.numbers[2], call.numbers[3]))
    return [0, len(net.lines) - 1]


def add_order(net, call):
    zone = call.numbers[0]
    price = call.numbers[2]
    if zone >= net.zones:
        return [UNKNOWN]
    if not net.low <= price <= net.high:
        return [OUTSIDE_BOUNDS]
    if len(net.orders) == MOST_ORDERS:
        return [FULL]
    net.orders.append(Order(zone, call.numbers[1], price, call.numbers[3]))
    return [0, len(net.orders) - 1]


def change_rooms(net, call):
    if call.numbers[0] >= len(net.lines):
        return [UNKNOWN]
    line = net.lines[call.numbers[0]]
    line.forth = call.numbers[1]
    line.back = call.numbers[2]
    return [0]


def amend_order(net, call):
    if call.numbers[0] >= len(net.orders):
        return [UNKNOWN]
    order = net.orders[call.numbers[0]]
    order.amount = call.numbers[1]
    return [0]


def tell_clearing(net, call):
    outcome = find_outcome(net)
    return [0] + row(outcome.told) + row(outcome.shares) + row(outcome.flows)


def tell_price_ranges(net, call):
    prices = find_prices(net)
    return [0] + row(prices.least) + row(prices.greatest)


def tell_zone(net, call):
    zone = call.numbers[0]
    if zone >= net.zones:
        return [UNKNOWN]
    outcome = find_outcome(net)
    sold = zone_shares(net, outcome, zone, SELLS)
    bought = zone_shares(net, outcome, zone, BUYS)
    return [0, outcome.told[zone], sold, bought, carried_out(net, outcome, zone)]


def tell_money(net, call):
    outcome = find_outcome(net)
    return [0, payments(net, outcome, BUYS), payments(net, outcome, SELLS)] + row(line_rents(net, outcome))


def tell_welfare(net, call):
    outcome = find_outcome(net)
    surpluses = [buyer_surplus(net, outcome), seller_surplus(net, outcome)]
    return [0, outcome_welfare(net, outcome)] + surpluses + [sum(line_rents(net, outcome))]


CALLS = {
    1: add_line,
    2: add_order,
    3: change_rooms,
    4: amend_order,
    5: tell_clearing,
    6: tell_price_ranges,
    7: tell_zone,
    8: tell_money,
    9: tell_welfare,
}


def has_call(place):
    return place in CALLS


def answer_call(net, call):
    return CALLS[call.place](net, call)
