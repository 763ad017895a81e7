"""Groups of places: a group is a tuple of one number for each place, 1 if the place is in it, else 0."""


def all_groups(places):
    groups = [()]
    for place in range(places):
        without = [group + (0,) for group in groups]
        groups = without + [group + (1,) for group in groups]
    return groups


# A thing that goes from tail to head enters a group that holds the head and not the tail.
def enters(group, tail, head):
    return group[head] > group[tail]
