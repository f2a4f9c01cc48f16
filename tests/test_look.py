"""Calls 9 queue and 10 actor: who is ready, and how an actor is just now."""

import unittest

from tests.helper import act, ask, come, dispel, effect, last, leave, look, push, queue, speed, tick, wait


class Queue(unittest.TestCase):
    def test_nobody_there(self):
        self.assertEqual(last(queue()), [0])
        self.assertEqual(last(come(5, -5), wait(), leave(1), queue()), [0])

    def test_nobody_ready(self):
        self.assertEqual(last(come(5, -5), queue()), [0])
        self.assertEqual(last(come(5, -6), come(5, -7), tick(1), queue()), [0])

    def test_zero_is_ready_and_one_below_is_not(self):
        self.assertEqual(last(come(5, -5), come(5, -6), come(5, -4), wait(), queue()), [0, 3, 1])

    def test_different_energy(self):
        self.assertEqual(last(come(5, -3), come(5, -1), come(5, -4), come(5, -2), wait(), queue()), [0, 2, 4, 1, 3])

    def test_the_same_energy(self):
        self.assertEqual(last(*[come(5, -5)] * 4, wait(), queue()), [0, 1, 2, 3, 4])
        self.assertEqual(last(*[come(9, -2)] * 4, wait(), queue()), [0, 1, 2, 3, 4])

    def test_same_and_different_energy_mixed(self):
        self.assertEqual(
            last(come(5, -3), come(9, -9), come(8, -2), come(4, -2), come(7, -1), come(6, -6), come(1, -2), wait(),
                 queue()),
            [0, 3, 5, 1, 4, 2, 6])

    def test_all_sixteen(self):
        self.assertEqual(last(*[come(20, -k) for k in range(1, 17)], wait(), queue()), [0] + list(range(1, 17)))
        self.assertEqual(last(*[come(20, -k) for k in range(16, 0, -1)], wait(), queue()), [0] + list(range(16, 0, -1)))
        self.assertEqual(last(*[come(20, -20)] * 16, wait(), queue()), [0] + list(range(1, 17)))

    def test_the_first_one_is_whose_turn_it_is(self):
        self.assertEqual(
            ask(come(5, -3), come(5, -1), come(5, -3), wait(), queue(), act(2, 2), queue(), act(1, 1), queue(),
                act(2, 3), queue(), act(3, 90), queue())[4::2],
            [[0, 2, 1, 3], [0, 1, 2, 3], [0, 2, 3, 1], [0, 3, 1], [0, 1]])

    def test_after_some_left(self):
        self.assertEqual(last(*[come(5, -5)] * 3, leave(2), come(5, -5), wait(), queue()), [0, 1, 3, 4])
        self.assertEqual(last(*[come(5, -5)] * 3, wait(), leave(1), queue()), [0, 2, 3])


class Look(unittest.TestCase):
    def test_a_new_one(self):
        self.assertEqual(last(come(7, -50), look(1)), [0, -50, 7, 7])

    def test_energy_goes_with_ticks_acts_and_pushes(self):
        self.assertEqual(
            ask(come(7, -10), tick(1), look(1), tick(1), look(1), act(1, 30), look(1), push(1, 2), look(1))[2::2],
            [[0, -3, 7, 7], [0, 4, 7, 7], [0, -26, 7, 7], [0, -28, 7, 7]])

    def test_base_speed_and_speed(self):
        self.assertEqual(last(come(7, -50), speed(1, 9), look(1)), [0, -50, 9, 9])
        self.assertEqual(last(come(7, -50), effect(1, 4, 3), speed(1, 9), look(1)), [0, -50, 9, 13, 4, 3])

    def test_speed_is_bounded_effects_are_told_as_they_came(self):
        self.assertEqual(last(come(7, -50), effect(1, -5000, 1000000), look(1)), [0, -50, 7, 0, -5000, 1000000])
        self.assertEqual(last(come(7, -50), effect(1, 5000, 1), effect(1, 5000, 1), look(1)),
                         [0, -50, 7, 5000, 5000, 1, 5000, 1])

    def test_effects_in_the_order_in_which_they_came(self):
        self.assertEqual(
            last(come(7, -50), effect(1, 4, 9), effect(1, -2, 3), effect(1, 0, 5), effect(1, -2, 3), look(1)),
            [0, -50, 7, 7, 4, 9, -2, 3, 0, 5, -2, 3])

    def test_also_after_some_have_ended(self):
        line = [come(7, -500), effect(1, 4, 9), effect(1, -2, 3), effect(1, 0, 5), effect(1, -1, 2)]
        self.assertEqual(
            ask(*line, tick(1), look(1), tick(1), look(1), tick(1), look(1), effect(1, 6, 2), look(1), tick(2),
                look(1), tick(4), look(1))[6::2],
            [[0, -492, 7, 8, 4, 8, -2, 2, 0, 4, -1, 1],
             [0, -484, 7, 9, 4, 7, -2, 1, 0, 3],
             [0, -475, 7, 11, 4, 6, 0, 2],
             [0, -475, 7, 17, 4, 6, 0, 2, 6, 2],
             [0, -441, 7, 11, 4, 4],
             [0, -397, 7, 7]])

    def test_eight_effects(self):
        line = [come(7, -500)] + [effect(1, k, 10 - k) for k in range(8)]
        self.assertEqual(last(*line, effect(1, 9, 9), look(1)),
                         [0, -500, 7, 35] + [number for k in range(8) for number in (k, 10 - k)])

    def test_dispelled(self):
        self.assertEqual(last(come(7, -500), effect(1, 4, 9), effect(1, -2, 3), dispel(1), look(1)), [0, -500, 7, 7])

    def test_each_for_itself(self):
        self.assertEqual(ask(come(7, -500), come(8, -90), effect(2, 4, 9), tick(1), look(1), look(2))[4:],
                         [[0, -493, 7, 7], [0, -78, 8, 12, 4, 8]])

    def test_no_such_actor(self):
        self.assertEqual(last(look(1)), [-3])
        self.assertEqual(last(come(1, -1), look(2)), [-3])
        self.assertEqual(last(come(1, -1), leave(1), look(1)), [-3])


if __name__ == "__main__":
    unittest.main()
