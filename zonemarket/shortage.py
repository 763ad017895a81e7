"""Shortages: how much a group of zones lacks at a number t, whatever its lines bring."""

from zonemarket.groups import all_groups, enters, held_by_each, held_by_some
from zonemarket.net import BUYS


# What the orders of each zone lack at t, lines left aside.
def zone_shortages(net, t):
    lacks = [0] * net.zones
    for order in net.orders:
        if order.side == BUYS and order.price > t:
            lacks[order.zone] += order.amount
        if order.side != BUYS and order.price <= t:
            lacks[order.zone] -= order.amount
    return lacks


def room_into(net, group):
    room = 0
    for line in net.lines:
        if enters(group, line.first, line.second):
            room += line.forth
        if enters(group, line.second, line.first):
            room += line.back
    return room


def lack_within(group, lacks):
    return sum([amount * inside for amount, inside in zip(lacks, group)])


def group_shortage(net, group, t):
    return lack_within(group, zone_shortages(net, t)) - room_into(net, group)


class Tightness:
    def __init__(self, most, least_group, greatest_group):
        self.most = most
        self.least_group = least_group
        self.greatest_group = greatest_group


# All groups of a net's zones. The room into a group is the same at every t, so it's worked out once for all of them.
class Shortages:
    def __init__(self, net):
        self.net = net
        self.groups = all_groups(net.zones)
        self.rooms = [room_into(net, group) for group in self.groups]

    def tightness(self, t):
        lacks = zone_shortages(self.net, t)
        shortages = [lack_within(group, lacks) - room for group, room in zip(self.groups, self.rooms)]
        most = max(shortages)
        short = [group for group, shortage in zip(self.groups, shortages) if shortage == most]
        return Tightness(most, held_by_each(short, self.net.zones), held_by_some(short, self.net.zones))
