"""-1 answers every argument out of its range, before all other refusals, and changes nothing."""

import unittest

from tests.helper import (
    act, ask, book, come, dispel, effect, last, leave, look, push, speed, tick, time, turns, wait, when)

HUGE = 10 ** 18

# A call with every argument well within, then the least and greatest number of each argument.
SHAPES = [
    (come(5, -5), [(1, 1000), (-1000000, -1)]),
    (leave(1), [(1, 400)]),
    (tick(3), [(1, 1000000)]),
    (act(1, 3), [(1, 400), (1, 1000000)]),
    (effect(1, 3, 3), [(1, 400), (-5000, 5000), (1, 1000000)]),
    (dispel(1), [(1, 400)]),
    (speed(1, 3), [(1, 400), (1, 1000)]),
    (push(1, 3), [(1, 400), (1, 1000000)]),
    (look(1), [(1, 400)]),
    (when(1), [(1, 400)]),
    (turns(3, [3]), [(1, 100)]),
    (book(1), [(1, 400)]),
]


def with_number(call, k, number):
    changed = list(call)
    changed[1 + k] = number
    return changed


def beyond(bounds):
    least, greatest = bounds
    return [least - 1, greatest + 1, -HUGE, HUGE, -HUGE + 1, HUGE - 1]


class Ranges(unittest.TestCase):
    def test_one_beyond_and_far_beyond_are_refused(self):
        for call, ranges in SHAPES:
            for k, bounds in enumerate(ranges):
                for number in beyond(bounds):
                    wrong = with_number(call, k, number)
                    with self.subTest(call=wrong):
                        self.assertEqual(last(come(1, -1), wait(), wrong), [-1])
                        self.assertEqual(last(come(1, -9), wrong), [-1])
                        self.assertEqual(last(wrong), [-1])

    def test_zero_is_out_of_each_range_but_that_of_more(self):
        for call, ranges in SHAPES:
            for k, bounds in enumerate(ranges):
                expected = 0 if bounds == (-5000, 5000) else -1
                with self.subTest(call=call, k=k):
                    self.assertEqual(last(come(1, -9), with_number(call, k, 0))[0], expected)

    def test_the_ends_are_not_out_of_range(self):
        for call, ranges in SHAPES:
            for k, bounds in enumerate(ranges):
                for number in bounds:
                    right = with_number(call, k, number)
                    with self.subTest(call=right):
                        setting = [come(1, -1), wait()] if right[0] == 4 else [come(1, -9)]
                        expected = -3 if bounds == (1, 400) and number == 400 else 0
                        self.assertEqual(last(*setting, right)[0], expected)

    def test_ends_answer_what_they_should(self):
        self.assertEqual(ask(come(1000, -1000000), wait()), [[0, 1], [0, 1000, 1]])
        self.assertEqual(ask(come(1, -1), wait()), [[0, 1], [0, 1, 1]])
        self.assertEqual(last(come(1, -1), wait(), act(1, 1000000)), [0, -1000000])
        self.assertEqual(last(come(1, -1), wait(), act(1, 1)), [0, -1])
        self.assertEqual(last(come(7, -1), speed(1, 1000)), [0, 1000])
        self.assertEqual(last(come(7, -1), speed(1, 1)), [0, 1])
        self.assertEqual(last(come(1, -1), effect(1, 4999, 1)), [0, 5000])
        self.assertEqual(last(come(1000, -1), effect(1, -999, 1)), [0, 1])

    def test_several_wrong_arguments_are_one_refusal(self):
        self.assertEqual(last(effect(0, 5001, 0)), [-1])
        self.assertEqual(last(come(0, 0)), [-1])


class Costs(unittest.TestCase):
    """Each cost of turns is held like an argument, wherever it stands in its row."""

    def rows(self, number):
        for count in (1, 2, 3, 16):
            for k in sorted({0, count // 2, count - 1}):
                yield [5] * k + [number] + [5] * (count - 1 - k)

    def test_one_beyond_and_far_beyond_are_refused(self):
        for number in beyond((1, 1000000)) + [0]:
            for row in self.rows(number):
                with self.subTest(row=row):
                    self.assertEqual(last(*[come(3, -9)] * len(row), turns(2, row)), [-1])
                    self.assertEqual(last(*[come(3, -3)] * len(row), wait(), turns(2, row)), [-1])
                    self.assertEqual(last(turns(2, row)), [-1])

    def test_the_ends_are_not_out_of_range(self):
        for number in (1, 1000000):
            for row in self.rows(number):
                with self.subTest(row=row):
                    self.assertEqual(last(*[come(3, -9)] * len(row), turns(1, row)), [0, 1, 3])
        self.assertEqual(last(come(1, -1), turns(3, [1000000])), [0, 1, 1, 1, 1000001, 1, 2000001])
        self.assertEqual(last(come(1, -1), turns(3, [1])), [0, 1, 1, 1, 2, 1, 3])

    def test_how_many_turns_at_the_ends(self):
        self.assertEqual(last(come(1, -1), turns(1, [1])), [0, 1, 1])
        self.assertEqual(len(last(come(1, -1), turns(100, [1]))), 201)
        self.assertEqual(last(come(1, -1), turns(0, [1])), [-1])
        self.assertEqual(last(come(1, -1), turns(101, [1])), [-1])


class BeforeAllOthers(unittest.TestCase):
    def test_before_no_such_actor(self):
        for call in [act(1, 0), act(400, 1000001), effect(2, 5001, 1), effect(2, 1, 0), speed(3, 0), speed(3, 1001),
                     push(1, 0), push(400, 1000001)]:
            with self.subTest(call=call):
                self.assertEqual(last(call), [-1])

    def test_before_full(self):
        sixteen = [come(1, -9)] * 16
        self.assertEqual(last(*sixteen, come(0, -9)), [-1])
        self.assertEqual(last(*sixteen, come(1, 0)), [-1])
        eight = [effect(1, 1, 1)] * 8
        self.assertEqual(last(come(1, -9), *eight, effect(1, 5001, 1)), [-1])
        self.assertEqual(last(come(1, -9), *eight, effect(1, 1, 1000001)), [-1])

    def test_before_somebody_ready(self):
        self.assertEqual(last(come(1, -1), wait(), tick(0)), [-1])
        self.assertEqual(last(come(1, -1), wait(), tick(1000001)), [-1])

    def test_before_not_its_turn(self):
        self.assertEqual(last(come(1, -9), act(1, 0)), [-1])
        self.assertEqual(last(come(1, -9), act(1, 1000001)), [-1])

    def test_before_the_count_of_costs(self):
        for call in [turns(0, []), turns(101, [1, 1]), turns(1, [1, 0]), turns(1, [1000001, 1]), turns(1, [0] * 100)]:
            with self.subTest(call=call):
                self.assertEqual(last(come(1, -9), call), [-1])


class NothingChanges(unittest.TestCase):
    def test_the_rest_of_the_line_is_as_without(self):
        before = [come(3, -20), come(4, -30), effect(1, 2, 3)]
        behind = [tick(2), wait(), act(1, 7), come(9, -9), speed(1, 9), wait(), dispel(1), act(3, 5),
                  time(), look(1), look(2), look(3), book(1), book(2), book(3)]
        plain = ask(*before, *behind)
        for call, ranges in SHAPES:
            for k, bounds in enumerate(ranges):
                for number in beyond(bounds):
                    wrong = with_number(call, k, number)
                    with self.subTest(call=wrong):
                        got = ask(*before, wrong, *behind)
                        self.assertEqual(got.pop(len(before)), [-1])
                        self.assertEqual(got, plain)


if __name__ == "__main__":
    unittest.main()
