"""The least, the greatest and the told price of each zone."""

from zonemarket.shortage import Shortages


class Prices:
    def __init__(self, least, greatest):
        self.least = least
        self.greatest = greatest
        self.told = [(low + high) // 2 for low, high in zip(least, greatest)]


# Shortages change only where t comes to an order's price, so between these points there's nothing to ask.
def turning_points(net):
    prices = [net.low] + [order.price for order in net.orders]
    return sorted(set([price for price in prices if price < net.high]))


# A zone's least price is above t just if the least group at t holds the zone, its greatest price just if the greatest
# group does; so each of the two is the first point where that ends.
def find_prices(net):
    shortages = Shortages(net)
    least = [net.high] * net.zones
    greatest = [net.high] * net.zones
    for t in reversed(turning_points(net)):
        tight = shortages.tightness(t)
        for zone in range(net.zones):
            if tight.least_group[zone] == 0:
                least[zone] = t
            if tight.greatest_group[zone] == 0:
                greatest[zone] = t
    return Prices(least, greatest)
