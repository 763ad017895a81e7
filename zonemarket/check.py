"""Shares and flows that are handed in: what keeps them from being as good as the outcome."""

from zonemarket.net import BUYS, SELLS
from zonemarket.sums import carried_out, shares_welfare, zone_shares
from zonemarket.welfare import greatest_welfare

AS_GOOD = 0
LESS_WELFARE = 4


def wrong_shares(net, shares):
    return [k for k, order in enumerate(net.orders) if not 0 <= shares[k] <= order.amount]


def wrong_flows(net, flows):
    return [k for k, line in enumerate(net.lines) if not -line.back <= flows[k] <= line.forth]


def is_balanced(net, shares, flows, zone):
    left = zone_shares(net, shares, zone, SELLS) - zone_shares(net, shares, zone, BUYS)
    return left == carried_out(net, flows, zone)


def unbalanced_zones(net, shares, flows):
    return [zone for zone in range(net.zones) if not is_balanced(net, shares, flows, zone)]


def find_verdict(net, shares, flows):
    faults = [wrong_shares(net, shares), wrong_flows(net, flows), unbalanced_zones(net, shares, flows)]
    for verdict, places in enumerate(faults, start=1):
        if places:
            return [verdict, places[0]]
    lack = greatest_welfare(net) - shares_welfare(net, shares)
    return [LESS_WELFARE, lack] if lack > 0 else [AS_GOOD, 0]
