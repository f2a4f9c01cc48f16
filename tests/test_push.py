"""Call 8 push: energy taken from an actor that hasn't acted."""

import unittest

from tests.helper import act, ask, book, come, effect, last, leave, look, push, queue, tick, time, turns, wait, when


class Push(unittest.TestCase):
    def test_energy_is_less(self):
        self.assertEqual(ask(come(10, -100), push(1, 30), push(1, 1), look(1))[1:],
                         [[0, -130], [0, -131], [0, -131, 10, 10]])

    def test_the_wait_is_longer(self):
        self.assertEqual(ask(come(10, -100), push(1, 30), wait())[1:], [[0, -130], [0, 13, 1]])
        self.assertEqual(ask(come(10, -100), tick(4), push(1, 30), wait())[2:], [[0, -90], [0, 9, 1]])

    def test_a_ready_one_may_not_be_ready_any_more(self):
        self.assertEqual(
            ask(come(10, -9), wait(), push(1, 1), time(), push(1, 1), time(), act(1, 1), tick(1), act(1, 1))[2:],
            [[0, 0], [0, 1, 1, 1, 1], [0, -1], [0, 1, 1, 1, 0], [-6], [0, 1, 1], [0, 8]])

    def test_it_may_be_anothers_turn(self):
        setting = [come(10, -5), come(10, -6), wait()]
        self.assertEqual(ask(*setting, push(1, 1), queue(), push(1, 1), queue(), act(1, 1), act(2, 1))[3:],
                         [[0, 4], [0, 1, 2], [0, 3], [0, 2, 1], [-6], [0, 3]])
        self.assertEqual(ask(*setting, push(1, 6), queue(), wait())[3:], [[0, -1], [0, 2], [0, 0, 2]])

    def test_it_need_not_be_its_turn(self):
        self.assertEqual(ask(come(10, -5), come(10, -6), come(1, -50), wait(), push(2, 1), push(3, 1), queue())[4:],
                         [[0, 3], [0, -50], [0, 1, 2]])

    def test_spent_but_not_acted(self):
        self.assertEqual(ask(come(10, -5), push(1, 9), book(1), wait(), act(1, 2), push(1, 7), book(1))[2:],
                         [[0, 0, 0, 9], [0, 2, 1], [0, 4], [0, -3], [0, 1, 20, 18]])

    def test_nothing_else_is_changed(self):
        self.assertEqual(
            ask(come(10, -50), come(20, -60), effect(1, 3, 9), tick(1), push(1, 5), look(1), look(2), book(2),
                time())[4:],
            [[0, -42], [0, -42, 10, 13, 3, 8], [0, -40, 20, 20], [0, 0, 20, 0], [0, 1, 2, 2, 0]])

    def test_the_ends(self):
        self.assertEqual(last(come(10, -1000000), push(1, 1000000)), [0, -2000000])
        self.assertEqual(last(come(10, -1), push(1, 1)), [0, -2])

    def test_far_below_zero(self):
        line = [come(1, -1000000)] + [push(1, 1000000)] * 396
        self.assertEqual(last(*line), [0, -397000000])
        self.assertEqual(last(*line, when(1)), [0, 397000000])
        self.assertEqual(last(*line, turns(2, [7])), [0, 1, 397000000, 1, 397000007])
        self.assertEqual(last(*line, wait()), [0, 397000000, 1])

    def test_no_such_actor(self):
        self.assertEqual(last(push(1, 1)), [-3])
        self.assertEqual(last(come(1, -1), push(2, 1)), [-3])
        self.assertEqual(last(come(1, -1), leave(1), push(1, 1)), [-3])

    def test_out_of_range_comes_first(self):
        for energy in (0, -1, 1000001, 10 ** 18, -10 ** 18):
            self.assertEqual(last(push(1, energy)), [-1])
            self.assertEqual(ask(come(3, -4), push(1, energy), look(1), book(1))[1:],
                             [[-1], [0, -4, 3, 3], [0, 0, 0, 0]])


if __name__ == "__main__":
    unittest.main()
