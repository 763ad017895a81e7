"""Sums over shares and flows: energy and money."""

from zonemarket.net import BUYS, SELLS, line_gain, order_gain


def zone_shares(net, shares, zone, side):
    total = 0
    for order, share in zip(net.orders, shares):
        if order.zone == zone and order.side == side:
            total += share
    return total


def carried_out(net, flows, zone):
    carried = 0
    for line, flow in zip(net.lines, flows):
        if line.first == zone:
            carried += flow
        if line.second == zone:
            carried -= flow
    return carried


def payments(net, outcome, side):
    paid = 0
    for order, share in zip(net.orders, outcome.shares):
        if order.side == side:
            paid += share * outcome.told[order.zone]
    return paid


# What the orders of one side would pay or get if each had its own price.
def own_value(net, shares, side):
    return sum([share * order.price for order, share in zip(net.orders, shares) if order.side == side])


def shares_welfare(net, shares):
    return own_value(net, shares, BUYS) - own_value(net, shares, SELLS)


def order_surpluses(net, outcome):
    return [share * order_gain(order, outcome.told) for order, share in zip(net.orders, outcome.shares)]


def side_surplus(net, outcome, side):
    return sum([gain for order, gain in zip(net.orders, order_surpluses(net, outcome)) if order.side == side])


def line_rents(net, outcome):
    return [flow * line_gain(line, outcome.told) for line, flow in zip(net.lines, outcome.flows)]
