"""Groups of places: a group holds one number for each place, 1 if the place is in it, else 0."""


def all_groups(places):
    groups = [()]
    for place in range(places):
        without = [group + (0,) for group in groups]
        groups = without + [group + (1,) for group in groups]
    return groups


# A thing that goes from tail to head enters a group that holds the head and not the tail.
def enters(group, tail, head):
    return group[head] > group[tail]


# Of some groups, at least one: the places that each of them holds, and the places that one of them holds, as groups.
def held_by_each(groups, places):
    held = []
    for place in range(places):
        held.append(min([group[place] for group in groups]))
    return held


def held_by_some(groups, places):
    held = []
    for place in range(places):
        held.append(max([group[place] for group in groups]))
    return held
