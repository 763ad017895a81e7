"""The net: price bounds, zones, the lines that join them and the orders in them."""

SELLS = 0
BUYS = 1


class Line:
    def __init__(self, first, second, forth, back):
        self.first = first
        self.second = second
        self.forth = forth
        self.back = back


class Order:
    def __init__(self, zone, side, price, amount):
        self.zone = zone
        self.side = side
        self.price = price
        self.amount = amount


class Net:
    def __init__(self, low, high, zones, lines, orders):
        self.low = low
        self.high = high
        self.zones = zones
        self.lines = lines
        self.orders = orders


# What an order gains by each unit of its share, and a line by each unit of its flow, if the zones have these prices.
def order_gain(order, prices):
    if order.side == BUYS:
        return order.price - prices[order.zone]
    return prices[order.zone] - order.price


def line_gain(line, prices):
    return prices[line.second] - prices[line.first]
