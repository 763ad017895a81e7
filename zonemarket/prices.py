"""The least, the greatest and the told price of each zone."""

from zonemarket.groups import all_groups
from zonemarket.shortage import group_shortages, groups_with_most, room_into


class Prices:
    def __init__(self, least, greatest):
        self.least = least
        self.greatest = greatest
        self.told = [(low + high) // 2 for low, high in zip(least, greatest)]


# Shortages change only where t comes to an order's price, so between these points there's nothing to ask.
def turning_points(net):
    prices = [net.low] + [order.price for order in net.orders]
    return sorted(set([price for price in prices if price < net.high]))


# A zone's least price is above t just if each group of most shortage at t holds the zone, its greatest price just
# if some such group holds it; so each of the two is the first point where that ends.
def find_prices(net):
    groups = all_groups(net.zones)
    rooms = [room_into(net, group) for group in groups]
    least = [net.high] * net.zones
    greatest = [net.high] * net.zones
    for t in reversed(turning_points(net)):
        short = groups_with_most(groups, group_shortages(net, groups, rooms, t))
        for zone in range(net.zones):
            inside = [group[zone] for group in short]
            if min(inside) == 0:
                least[zone] = t
            if max(inside) == 0:
                greatest[zone] = t
    return Prices(least, greatest)
