"""Calls 0 come and 1 leave: who is there, and their numbers."""

import unittest

from tests.helper import (
    act, ask, book, come, dispel, effect, last, leave, look, push, speed, tick, time, wait, when)


class Come(unittest.TestCase):
    def test_numbers_in_the_order_of_coming(self):
        self.assertEqual(ask(come(5, -5), come(1, -1), come(1000, -1000000)), [[0, 1], [0, 2], [0, 3]])

    def test_speed_and_energy_are_as_told(self):
        self.assertEqual(ask(come(7, -50), dispel(1), wait(), act(1, 1)), [[0, 1], [0, 7], [0, 8, 1], [0, 5]])

    def test_sixteen_and_a_seventeenth(self):
        got = ask(*[come(1, -9)] * 17)
        self.assertEqual(got[:16], [[0, k] for k in range(1, 17)])
        self.assertEqual(got[16], [-4])

    def test_a_refused_one_uses_no_number_up(self):
        got = ask(*[come(1, -9)] * 18, leave(4), come(1, -9), come(1, -9))
        self.assertEqual(got[16:], [[-4], [-4], [0], [0, 17], [-4]])

    def test_a_refused_one_is_not_there(self):
        line = [come(1, -9)] * 16 + [come(1000, -1)]
        self.assertEqual(last(*line, wait()), [0, 9, 1])
        self.assertEqual(last(*line, leave(17)), [-3])

    def test_a_number_is_not_given_again(self):
        self.assertEqual(
            ask(come(1, -9), leave(1), come(1, -9), come(1, -9), leave(3), come(1, -9)),
            [[0, 1], [0], [0, 2], [0, 3], [0], [0, 4]])

    def test_one_that_comes_later_has_none_of_the_effects_of_one_that_left(self):
        self.assertEqual(last(come(5, -9), effect(1, 50, 9), leave(1), come(5, -9), speed(2, 6)), [0, 6])

    def test_coming_while_somebody_is_ready(self):
        self.assertEqual(ask(come(5, -5), wait(), come(9, -9), wait(), act(1, 5), wait())[2:],
                         [[0, 2], [0, 0, 1], [0, -5], [0, 1, 1]])

    def test_numbers_go_on_through_a_whole_line(self):
        line = []
        for number in range(1, 201):
            line += [come(1, -9), leave(number)]
        expected = []
        for number in range(1, 201):
            expected += [[0, number], [0]]
        self.assertEqual(ask(*line), expected)


class Leave(unittest.TestCase):
    def test_answers_nothing_more(self):
        self.assertEqual(last(come(5, -5), leave(1)), [0])

    def test_never_given(self):
        self.assertEqual(last(leave(1)), [-3])
        self.assertEqual(last(come(1, -1), leave(2)), [-3])
        self.assertEqual(last(come(1, -1), leave(400)), [-3])

    def test_left_already(self):
        self.assertEqual(last(come(1, -1), leave(1), leave(1)), [-3])

    def test_the_ready_one_leaves_and_time_goes_on(self):
        self.assertEqual(
            ask(come(9, -9), come(1, -9), wait(), leave(1), tick(100)),
            [[0, 1], [0, 2], [0, 1, 1], [0], [0, 8, 2]])

    def test_the_next_ready_one_has_its_turn(self):
        self.assertEqual(last(come(9, -5), come(9, -6), wait(), leave(1), wait()), [0, 0, 2])

    def test_others_are_kept_as_they_are(self):
        self.assertEqual(
            ask(come(3, -30), come(4, -30), effect(2, 1, 2), tick(1), leave(1), wait(), act(2, 10))[5:],
            [[0, 6, 2], [0, -10]])

    def test_all_leave(self):
        self.assertEqual(ask(come(1, -1), wait(), leave(1), wait(), tick(5))[2:], [[0], [-3], [0, 5, 0]])


class NoSuchActor(unittest.TestCase):
    def calls_for(self, number):
        return [leave(number), act(number, 1), effect(number, 1, 1), dispel(number), speed(number, 1),
                push(number, 1), look(number), when(number), book(number)]

    def test_never_given(self):
        for number in (2, 3, 16, 17, 399, 400):
            for call in self.calls_for(number):
                with self.subTest(call=call):
                    self.assertEqual(last(come(1, -1), wait(), call), [-3])
                    self.assertEqual(last(come(1, -9), call), [-3])

    def test_nobody_there(self):
        for call in self.calls_for(1):
            with self.subTest(call=call):
                self.assertEqual(last(call), [-3])

    def test_left(self):
        for call in self.calls_for(1):
            with self.subTest(call=call):
                self.assertEqual(last(come(1, -1), come(1, -1), wait(), leave(1), call), [-3])

    def test_refusals_change_nothing(self):
        before = [come(3, -20), come(4, -30), leave(1), come(2, -9)]
        behind = [tick(2), wait(), act(3, 7), come(9, -9), wait(), time(), look(2), look(3), book(2), book(3)]
        plain = ask(*before, *behind)
        for number in (1, 4):
            for call in self.calls_for(number):
                with self.subTest(call=call):
                    got = ask(*before, call, *behind)
                    self.assertEqual(got.pop(len(before)), [-3])
                    self.assertEqual(got, plain)


if __name__ == "__main__":
    unittest.main()
