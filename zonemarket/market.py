"""A list of calls on one market, answered one behind another."""

from zonemarket.calls import answer_call
from zonemarket.forms import as_told, read_calls
from zonemarket.net import Net

NOT_AS_TOLD = -1
NO_NET = -2

OPENING = 0


class Market:
    def __init__(self):
        self.net = None

    def answer(self, call):
        if not as_told(call):
            return [NOT_AS_TOLD]
        if call.place == OPENING:
            return self.make_net(call.numbers[0], call.numbers[1], call.numbers[2])
        if self.net is None:
            return [NO_NET]
        return answer_call(self.net, call)

    def make_net(self, low, high, zones):
        if low > high:
            return [NOT_AS_TOLD]
        self.net = Net(low, high, zones, [], [])
        return [0]


def answers(calls):
    market = Market()
    told = []
    for call in read_calls(calls):
        answer = market.answer(call)
        told.append(len(answer))
        told.extend(answer)
    return told
