"""answers itself: what it takes, what it gives back, and that it keeps nothing."""

import unittest

from tests.helper import (AREAS, CLEAR, MONEY, RANGE, STATE, WELFARE, amend, ask, buy, check, line, lineworth, net_at,
                          opening, rooms, sell, shortage, supporting, tight, unit, worth, zone)
from zonemarket.market import answers

CALLS = [opening(-20, 90, 2), line(0, 1, 5, 2), sell(0, 10, 9), buy(1, 60, 7), CLEAR, RANGE, zone(0), zone(3), MONEY,
         WELFARE, rooms(0, 9, 9), amend(1, 4), sell(0, 91, 1), CLEAR, supporting([10, 10]), check([4, 4], [4]),
         check([3, 3], [3]), worth(1), lineworth(0), AREAS, net_at(0, 10), tight(9), shortage(9, [0, 1]), unit(1),
         supporting([10]), STATE]
FLAT = [number for call in CALLS for number in call]
TOLD = [1, 0, 2, 0, 0, 2, 0, 0, 2, 0, 1, 9, 0, 2, 10, 60, 2, 5, 5, 1, 5, 7, 0, 2, 10, 60, 2, 10, 60, 5, 0, 10, 5, 0, 5,
        1, -3, 5, 0, 300, 50, 1, 250, 5, 0, 250, 0, 0, 250, 1, 0, 1, 0, 1, -4, 9, 0, 2, 10, 10, 2, 4, 4, 1, 4,
        2, 0, 1, 3, 0, 0, 0, 3, 0, 4, 50, 3, 0, 200, 200, 3, 0, 200, 0, 4, 0, 2, 0, 0, 3, 0, 0, 9,
        8, 0, 4, 2, 1, 1, 2, 1, 1, 2, 0, -5, 3, 0, 10, 10, 1, -3,
        18, 0, -20, 90, 2, 4, 0, 1, 9, 9, 8, 0, 0, 10, 9, 1, 1, 60, 4]


class LockedList(list):
    """A list that can be read alone."""

    def refuse(self, *_):
        raise AssertionError("what is handed in is changed")

    append = extend = insert = pop = remove = reverse = sort = clear = refuse
    __setitem__ = __delitem__ = __iadd__ = __imul__ = refuse


class InterfaceTest(unittest.TestCase):
    def test_each_answer_has_its_count_ahead(self):
        self.assertEqual(answers(FLAT), TOLD)

    def test_one_call(self):
        self.assertEqual(answers([0, 0, 9, 1]), [1, 0])
        self.assertEqual(answers([5]), [1, -2])

    def test_200_calls(self):
        self.assertTrue(answers([0, 3, 4, 1] + [6] * 199) == [1, 0] + [5, 0, 1, 3, 1, 4] * 199)

    def test_what_is_handed_in_is_not_changed(self):
        handed = list(FLAT)
        answers(handed)
        self.assertEqual(handed, FLAT)

    def test_what_is_handed_in_is_not_changed_for_a_while_either(self):
        self.assertEqual(answers(LockedList(FLAT)), TOLD)

    def test_nothing_is_kept_from_one_time_to_the_next(self):
        self.assertEqual(answers(FLAT), TOLD)
        self.assertEqual(answers([5]), [1, -2])
        self.assertEqual(answers(FLAT), TOLD)
        self.assertEqual(answers([2, 0, 0, 1, 1, 9]), [1, -2, 1, -2])

    def test_a_changed_answer_changes_no_later_one(self):
        answers(FLAT).clear()
        self.assertEqual(answers(FLAT), TOLD)

    def test_whole_numbers_in_a_list(self):
        told = answers(FLAT)
        self.assertIs(type(told), list)
        self.assertTrue(all(type(number) is int for number in told))

    def test_a_refused_call_is_read_to_its_end(self):
        self.assertEqual(answers([2, 5, 5, 5, 5, 0, 1, 2, 3, 7, 5, 5]), [1, -1, 1, 0, 1, -3, 7, 0, 3, 1, 1, 1, 0, 0])

    def test_calls_without_a_net_are_read_to_their_end(self):
        for call in ([10, 2, 5, 5], [10, 0], [11, 1, 5, 2, 5, 5], [11, 0, 0], [17, 0, 3, 0, 0, 1], [12, 5], [13, 5],
                     [14], [15, 5, 5], [16, 5], [18, 5], [19]):
            self.assertEqual(answers([*call, 0, 3, 4, 1, 6]), [1, -2, 1, 0, 5, 0, 1, 3, 1, 4], call)

    def test_lists_of_no_numbers_and_of_64_and_65(self):
        for count, refusal in ((0, -3), (64, -3), (65, -1), (100, -1)):
            for call in (supporting([0] * count), check([0] * count, [0] * count), check([0] * count, [0]),
                         shortage(0, [0] * count)):
                told = [1, 0, 2, 0, 0, 1, refusal, 5, 0, 1, 3, 1, 4]
                self.assertEqual(answers([0, 3, 4, 1, 2, 0, 0, 4, 1, *call, 6]), told, call)

    def test_lists_of_check_are_told_apart(self):
        net = [opening(0, 9, 2), line(0, 1, 5, 5), sell(0, 1, 5), buy(1, 3, 5)]
        state = [0, 0, 9, 2, 4, 0, 1, 5, 5, 8, 0, 0, 1, 5, 1, 1, 3, 5]
        for call, told in (([11, 2, 5, 5, 1, 5], [0, 0, 0]), ([11, 1, 5, 2, 5, 5], [-3]), ([11, 2, 1, 1, 0], [-4]),
                           ([11, 0, 2, 1, 1], [-3])):
            self.assertEqual(ask(*net, call, STATE)[-2:], [told, state], call)


if __name__ == "__main__":
    unittest.main()
