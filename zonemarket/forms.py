"""The forms of the calls: how they follow one another in the list, and which range each number has."""

RANGES = {
    "price": (-1000000, 1000000),
    "zones": (1, 6),
    "zone": (0, 5),
    "side": (0, 1),
    "room": (0, 1000000000),
    "first amount": (1, 1000000000),
    "amount": (0, 1000000000),
    "line": (0, 11),
    "order": (0, 39),
}

NUMBERS = (
    ("price", "price", "zones"),  # 0 open
    ("zone", "zone", "room", "room"),  # 1 line
    ("zone", "side", "price", "first amount"),  # 2 order
    ("line", "room", "room"),  # 3 rooms
    ("order", "amount"),  # 4 amend
    (),  # 5 clear
    (),  # 6 range
    ("zone",),  # 7 zone
    (),  # 8 money
    (),  # 9 welfare
    (),  # 10 supports
    (),  # 11 check
    ("order",),  # 12 worth
    ("line",),  # 13 lineworth
    (),  # 14 areas
    ("zone", "price"),  # 15 net
    ("price",),  # 16 tight
    ("price",),  # 17 shortage
    ("zone",),  # 18 unit
    (),  # 19 state
)

# How many lists a call has behind its numbers; the calls that aren't named here have none.
LISTS = {10: 1, 11: 2, 17: 1}


class Call:
    def __init__(self, place, numbers):
        self.place = place
        self.numbers = numbers


# A place without a form is read as a call without numbers, so that reading always goes on.
def number_names(place):
    return NUMBERS[place] if 0 <= place < len(NUMBERS) else ()


# A call's lists aren't kept: none of the calls that are answered so far has one.
def end_of_lists(numbers, place, start):
    end = start
    for count in range(LISTS.get(place, 0)):
        end += 1 + numbers[end]
    return end


def read_calls(numbers):
    calls = []
    start = 0
    while start < len(numbers):
        place = numbers[start]
        end = start + 1 + len(number_names(place))
        calls.append(Call(place, numbers[start + 1:end]))
        start = end_of_lists(numbers, place, end)
    return calls


def within_ranges(call):
    for name, number in zip(number_names(call.place), call.numbers):
        if not RANGES[name][0] <= number <= RANGES[name][1]:
            return False
    return True
