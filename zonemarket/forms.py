"""The forms of the calls: how they follow one another in the list, and which range each number has."""

RANGES = {
    "price": (-1000000, 1000000),
    "zones": (1, 6),
    "zone": (0, 5),
    "side": (0, 1),
    "room": (0, 1000000000),
    "first amount": (1, 1000000000),
    "amount": (0, 1000000000),
    "line": (0, 11),
    "order": (0, 39),
    "share or flow": (-2000000000, 2000000000),
    "member": (0, 1),
}

NUMBERS = (
    ("price", "price", "zones"),  # 0 open
    ("zone", "zone", "room", "room"),  # 1 line
    ("zone", "side", "price", "first amount"),  # 2 order
    ("line", "room", "room"),  # 3 rooms
    ("order", "amount"),  # 4 amend
    (),  # 5 clear
    (),  # 6 range
    ("zone",),  # 7 zone
    (),  # 8 money
    (),  # 9 welfare
    (),  # 10 supports
    (),  # 11 check
    ("order",),  # 12 worth
    ("line",),  # 13 lineworth
    (),  # 14 areas
    ("zone", "price"),  # 15 net
    ("price",),  # 16 tight
    ("price",),  # 17 shortage
    ("zone",),  # 18 unit
    (),  # 19 state
)

# What the numbers of each list are, for the calls that have lists behind their numbers.
LISTS = {
    10: ("price",),  # supports
    11: ("share or flow", "share or flow"),  # check
    17: ("member",),  # shortage
}

LONGEST_LIST = 64


class Call:
    def __init__(self, place, numbers, lists):
        self.place = place
        self.numbers = numbers
        self.lists = lists


def has_form(place):
    return 0 <= place < len(NUMBERS)


# A place without a form is read as a call without numbers, so that reading always goes on.
def number_names(place):
    return NUMBERS[place] if has_form(place) else ()


def list_names(place):
    return LISTS.get(place, ())


def read_lists(numbers, place, start):
    lists = []
    count_place = start
    while len(lists) < len(list_names(place)):
        end = count_place + 1 + numbers[count_place]
        lists.append(numbers[count_place + 1:end])
        count_place = end
    return lists


def read_calls(numbers):
    calls = []
    start = 0
    while start < len(numbers):
        place = numbers[start]
        end = start + 1 + len(number_names(place))
        lists = read_lists(numbers, place, end)
        calls.append(Call(place, numbers[start + 1:end], lists))
        start = end + sum([1 + len(each) for each in lists])
    return calls


def in_range(name, number):
    return RANGES[name][0] <= number <= RANGES[name][1]


def list_as_told(name, numbers):
    return len(numbers) <= LONGEST_LIST and all([in_range(name, number) for number in numbers])


def as_told(call):
    numbers = [in_range(name, number) for name, number in zip(number_names(call.place), call.numbers)]
    lists = [list_as_told(name, each) for name, each in zip(list_names(call.place), call.lists)]
    return has_form(call.place) and all(numbers) and all(lists)
