"""The net: price bounds, zones, the lines that join them and the orders in them."""

SELLS = 0
BUYS = 1


class Line:
    def __init__(self, first, second, forth, back):
        self.first = first
        self.second = second
        self.forth = forth
        self.back = back


class Order:
    def __init__(self, zone, side, price, amount):
        self.zone = zone
        self.side = side
        self.price = price
        self.amount = amount


class Net:
    def __init__(self, low, high, zones):
        self.low = low
        self.high = high
        self.zones = zones
        self.lines = []
        self.orders = []
