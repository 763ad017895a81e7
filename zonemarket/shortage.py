"""Shortages: how much a group of zones lacks at a number t, whatever its lines bring."""

from zonemarket.groups import enters
from zonemarket.net import BUYS


# What the orders of each zone lack at t, lines left aside.
def zone_shortages(net, t):
    lacks = [0] * net.zones
    for order in net.orders:
        if order.side == BUYS and order.price > t:
            lacks[order.zone] += order.amount
        if order.side != BUYS and order.price <= t:
            lacks[order.zone] -= order.amount
    return lacks


def room_into(net, group):
    room = 0
    for line in net.lines:
        if enters(group, line.first, line.second):
            room += line.forth
        if enters(group, line.second, line.first):
            room += line.back
    return room


# rooms holds the room into each of the groups: it's the same at every t, so it's worked out once by the caller.
def group_shortages(net, groups, rooms, t):
    lacks = zone_shortages(net, t)
    shortages = []
    for group, room in zip(groups, rooms):
        lack = sum([amount * inside for amount, inside in zip(lacks, group)])
        shortages.append(lack - room)
    return shortages


def groups_with_most(groups, shortages):
    most = max(shortages)
    return [group for group, shortage in zip(groups, shortages) if shortage == most]
