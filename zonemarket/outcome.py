"""The outcome: the shares and flows that are chosen of all possible ones, and the told prices beside them."""

from zonemarket.circulation import Arc, Circulation
from zonemarket.net import BUYS
from zonemarket.prices import find_prices


class Outcome:
    def __init__(self, told, shares, flows):
        self.told = told
        self.shares = shares
        self.flows = flows


# What's sold comes into its zone from one more node, outside all zones, and what's bought goes there.
def order_arc(order, prices, outside):
    tail = order.zone if order.side == BUYS else outside
    head = outside if order.side == BUYS else order.zone
    gain = order.price - prices[order.zone] if order.side == BUYS else prices[order.zone] - order.price
    if gain > 0:
        return Arc(tail, head, order.amount, order.amount)
    if gain < 0:
        return Arc(tail, head, 0, 0)
    return Arc(tail, head, 0, order.amount)


def line_arc(line, prices):
    if prices[line.second] > prices[line.first]:
        return Arc(line.first, line.second, line.forth, line.forth)
    if prices[line.second] < prices[line.first]:
        return Arc(line.first, line.second, -line.back, -line.back)
    return Arc(line.first, line.second, -line.back, line.forth)


def highest_shares(circulation, arcs):
    shares = []
    for arc in arcs:
        share = circulation.highest(arc)
        circulation.settle(arc, share)
        shares.append(share)
    return shares


def flows_nearest_to_zero(circulation, arcs):
    flows = []
    for arc in arcs:
        flow = min(max(0, circulation.lowest(arc)), circulation.highest(arc))
        circulation.settle(arc, flow)
        flows.append(flow)
    return flows


# The possible shares and flows of greatest welfare are just those that supporting prices support: so the told prices
# bound each share and flow, and within these bounds no welfare is left to be weighed.
def find_outcome(net):
    told = find_prices(net).told
    order_arcs = [order_arc(order, told, net.zones) for order in net.orders]
    line_arcs = [line_arc(line, told) for line in net.lines]
    circulation = Circulation(net.zones + 1, order_arcs + line_arcs)
    shares = highest_shares(circulation, order_arcs)
    return Outcome(told, shares, flows_nearest_to_zero(circulation, line_arcs))
