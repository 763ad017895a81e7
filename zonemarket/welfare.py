"""The greatest welfare of a net, and the nets that differ from it by one line or one order."""

from zonemarket.net import Net, line_gain, order_gain
from zonemarket.prices import find_prices


# At supporting prices each order and each line has the share or flow that gains it most, and what buyers pay beyond
# what sellers get is the lines'. So the sum of these gains is the outcome's welfare, and no share has to be settled.
def greatest_welfare(net):
    told = find_prices(net).told
    surpluses = [max(0, order_gain(order, told)) * order.amount for order in net.orders]
    rents = [max(line.forth * line_gain(line, told), -line.back * line_gain(line, told)) for line in net.lines]
    return sum(surpluses) + sum(rents)


# A line without room and an order without amount add nothing to any welfare, so they are left out. The net itself
# stays as it is: only its lists' members are shared, and none of these is changed.
def without_line(net, number):
    lines = net.lines[:number] + net.lines[number + 1:]
    return Net(net.low, net.high, net.zones, lines, net.orders)


def without_order(net, number):
    orders = net.orders[:number] + net.orders[number + 1:]
    return Net(net.low, net.high, net.zones, net.lines, orders)


def with_order(net, order):
    return Net(net.low, net.high, net.zones, net.lines, net.orders + [order])
