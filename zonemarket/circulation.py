"""Flows round a graph of a few nodes: as much comes to each node as goes from it, and each arc keeps its bounds."""

from zonemarket.groups import all_groups, enters


class Arc:
    def __init__(self, tail, head, least, most):
        self.tail = tail
        self.head = head
        self.least = least
        self.most = most


# A group's spare is the most that can leave it less the least that must enter it. Flows within the bounds are there
# just if no group's spare is below 0 (Hoffman's theorem), so the spares tell how far one arc alone can go.
def group_spare(group, arcs):
    spare = 0
    for arc in arcs:
        if enters(group, arc.tail, arc.head):
            spare -= arc.least
        if enters(group, arc.head, arc.tail):
            spare += arc.most
    return spare


class Circulation:
    def __init__(self, nodes, arcs):
        self.groups = all_groups(nodes)
        self.spares = [group_spare(group, arcs) for group in self.groups]

    def least_spare(self, tail, head):
        return min([spare for group, spare in zip(self.groups, self.spares) if enters(group, tail, head)])

    def highest(self, arc):
        return min(arc.most, arc.least + self.least_spare(arc.tail, arc.head))

    def lowest(self, arc):
        return max(arc.least, arc.most - self.least_spare(arc.head, arc.tail))

    def settle(self, arc, flow):
        spares = []
        for group, spare in zip(self.groups, self.spares):
            change = 0
            if enters(group, arc.tail, arc.head):
                change = arc.least - flow
            if enters(group, arc.head, arc.tail):
                change = flow - arc.most
            spares.append(spare + change)
        self.spares = spares
        arc.least = flow
        arc.most = flow
