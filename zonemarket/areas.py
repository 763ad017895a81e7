"""Areas: zones that slack lines join."""


def is_slack(line, flow):
    return -line.back < flow < line.forth


# Each area goes by its least zone. A slack line makes one of two areas: the greater of their names is given up.
def find_areas(net, flows):
    areas = list(range(net.zones))
    for line, flow in zip(net.lines, flows):
        if is_slack(line, flow):
            kept = min(areas[line.first], areas[line.second])
            given_up = max(areas[line.first], areas[line.second])
            areas = [kept if area == given_up else area for area in areas]
    return areas
