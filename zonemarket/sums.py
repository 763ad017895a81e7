"""Sums over an outcome: energy and money."""

from zonemarket.net import BUYS, SELLS


def zone_shares(net, outcome, zone, side):
    total = 0
    for order, share in zip(net.orders, outcome.shares):
        if order.zone == zone and order.side == side:
            total += share
    return total


def carried_out(net, outcome, zone):
    carried = 0
    for line, flow in zip(net.lines, outcome.flows):
        if line.first == zone:
            carried += flow
        if line.second == zone:
            carried -= flow
    return carried


def payments(net, outcome, side):
    paid = 0
    for order, share in zip(net.orders, outcome.shares):
        if order.side == side:
            paid += share * outcome.told[order.zone]
    return paid


# What the orders of one side would pay or get if each had its own price.
def own_value(net, outcome, side):
    return sum([share * order.price for order, share in zip(net.orders, outcome.shares) if order.side == side])


def outcome_welfare(net, outcome):
    return own_value(net, outcome, BUYS) - own_value(net, outcome, SELLS)


def buyer_surplus(net, outcome):
    return own_value(net, outcome, BUYS) - payments(net, outcome, BUYS)


def seller_surplus(net, outcome):
    return payments(net, outcome, SELLS) - own_value(net, outcome, SELLS)


def line_rents(net, outcome):
    told = outcome.told
    return [flow * (told[line.second] - told[line.first]) for line, flow in zip(net.lines, outcome.flows)]
