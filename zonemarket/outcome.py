"""The outcome: the shares and flows that are chosen of all possible ones, and the told prices beside them."""

from zonemarket.circulation import Arc, Circulation
from zonemarket.net import BUYS, line_gain, order_gain
from zonemarket.prices import find_prices


class Outcome:
    def __init__(self, told, shares, flows):
        self.told = told
        self.shares = shares
        self.flows = flows


# What's sold comes into its zone from one more node, outside all zones, and what's bought goes there.
def order_arc(order, prices, outside):
    tail = order.zone if order.side == BUYS else outside
    head = outside if order.side == BUYS else order.zone
    gain = order_gain(order, prices)
    if gain > 0:
        return Arc(tail, head, order.amount, order.amount)
    if gain < 0:
        return Arc(tail, head, 0, 0)
    return Arc(tail, head, 0, order.amount)


def line_arc(line, prices):
    gain = line_gain(line, prices)
    if gain > 0:
        return Arc(line.first, line.second, line.forth, line.forth)
    if gain < 0:
        return Arc(line.first, line.second, -line.back, -line.back)
    return Arc(line.first, line.second, -line.back, line.forth)


def order_arcs(net, prices):
    return [order_arc(order, prices, net.zones) for order in net.orders]


def line_arcs(net, prices):
    return [line_arc(line, prices) for line in net.lines]


def highest_shares(circulation, arcs):
    shares = []
    for arc in arcs:
        share = circulation.highest(arc)
        circulation.settle(arc, share)
        shares.append(share)
    return shares


def flows_nearest_to_zero(circulation, arcs):
    flows = []
    for arc in arcs:
        flow = min(max(0, circulation.lowest(arc)), circulation.highest(arc))
        circulation.settle(arc, flow)
        flows.append(flow)
    return flows


# The possible shares and flows of greatest welfare are just those that supporting prices support: so the told prices
# bound each share and flow, and within these bounds no welfare is left to be weighed.
def find_outcome(net):
    told = find_prices(net).told
    share_arcs = order_arcs(net, told)
    flow_arcs = line_arcs(net, told)
    circulation = Circulation(net.zones + 1, share_arcs + flow_arcs)
    shares = highest_shares(circulation, share_arcs)
    return Outcome(told, shares, flows_nearest_to_zero(circulation, flow_arcs))


# Prices support an outcome just if each share and flow keeps the bounds that these prices set it.
def is_supported(net, outcome, prices):
    arcs = order_arcs(net, prices) + line_arcs(net, prices)
    return all([arc.least <= flow <= arc.most for arc, flow in zip(arcs, outcome.shares + outcome.flows)])
