"""Call 11 when: behind how many ticks an actor will be ready."""

import unittest

from tests.helper import act, ask, come, dispel, effect, last, leave, push, speed, tick, turns, wait, when


class When(unittest.TestCase):
    def test_the_quotient_rounded_up(self):
        for base, energy, ticks in ((5, -10, 2), (5, -11, 3), (5, -9, 2), (5, -1, 1), (1000, -1, 1), (3, -10, 4),
                                    (1, -1000000, 1000000), (1000, -1000000, 1000), (999, -1000000, 1002)):
            with self.subTest(base=base, energy=energy):
                self.assertEqual(last(come(base, energy), when(1)), [0, ticks])

    def test_a_ready_one(self):
        self.assertEqual(last(come(5, -10), wait(), when(1)), [0, 0])
        self.assertEqual(last(come(5, -8), wait(), when(1)), [0, 0])
        # It's ready, though it isn't its turn.
        self.assertEqual(last(come(5, -8), come(5, -7), wait(), when(1)), [0, 0])
        self.assertEqual(last(come(5, -8), wait(), effect(1, -5000, 1000000), when(1)), [0, 0])

    def test_ticks_acts_and_pushes(self):
        self.assertEqual(
            ask(come(5, -20), tick(1), when(1), push(1, 1), when(1), wait(), when(1), act(1, 5), when(1))[2::2],
            [[0, 3], [0, 4], [0, 0], [0, 1]])

    def test_speeds(self):
        self.assertEqual(
            ask(come(5, -20), speed(1, 20), when(1), speed(1, 19), when(1), effect(1, -9, 50), when(1), dispel(1),
                when(1))[2::2],
            [[0, 1], [0, 2], [0, 2], [0, 2]])

    def test_effects_that_end_meanwhile(self):
        self.assertEqual(last(come(10, -100), effect(1, 10, 3), when(1)), [0, 7])
        self.assertEqual(last(come(10, -100), effect(1, -5, 4), when(1)), [0, 12])
        self.assertEqual(last(come(10, -100), effect(1, 40, 2), when(1)), [0, 2])
        self.assertEqual(last(come(10, -101), effect(1, 40, 2), when(1)), [0, 3])
        self.assertEqual(
            last(come(10, -1000), effect(1, 5, 4), effect(1, -8, 2), effect(1, 90, 7), effect(1, 3, 2), when(1)),
            [0, 36])

    def test_effects_that_hold_its_speed_at_zero(self):
        self.assertEqual(last(come(10, -100), effect(1, -10, 3), when(1)), [0, 13])
        self.assertEqual(last(come(10, -100), effect(1, -500, 3), effect(1, 490, 5), when(1)), [0, 4])
        self.assertEqual(last(come(10, -1), effect(1, -5000, 7), effect(1, -5000, 3), when(1)), [0, 8])
        self.assertEqual(last(come(10, -1), effect(1, 1, 3), effect(1, -11, 7), tick(5), when(1)), [0, 3])

    def test_long_waits(self):
        self.assertEqual(last(come(1, -1000000), effect(1, -1, 1000000), when(1)), [0, 2000000])
        self.assertEqual(last(come(1, -1), *[effect(1, -5000, 1000000)] * 8, when(1)), [0, 1000001])
        self.assertEqual(last(come(1, -1), *[effect(1, -5000, 1000000 - k) for k in range(8)], when(1)), [0, 1000001])
        got = ask(come(1, -1000000), effect(1, -5000, 1000000), *[when(1)] * 398)
        self.assertEqual(got[2:], [[0, 2000000]] * 398)

    def test_however_ready_the_others_are(self):
        setting = [come(1000, -1), come(3, -20), effect(2, -3, 4), wait()]
        self.assertEqual(ask(*setting, when(1), when(2))[4:], [[0, 0], [0, 3 + 7]])
        self.assertEqual(last(*setting, act(1, 1), when(2)), [0, 10])
        self.assertEqual(last(*setting, leave(1), when(2)), [0, 10])

    def test_what_happens_to_others_does_not_matter(self):
        setting = [come(7, -30), come(3, -20), come(5, -90), effect(3, 8, 3), tick(2)]
        expected = [0, -(-(90 - 26 - 13) // 5) + 1]
        self.assertEqual(last(*setting, when(3)), expected)
        for call in (leave(1), push(2, 1000000), effect(1, 5000, 9), speed(2, 1000), dispel(1), come(1000, -1)):
            with self.subTest(call=call):
                self.assertEqual(last(*setting, call, when(3)), expected)

    def test_one_tick_by_tick(self):
        setting = [come(2, -40), effect(1, -2, 5), effect(1, 3, 9), effect(1, -1, 11)]
        expected = last(*setting, when(1))[1]
        for gone in range(1, expected + 1):
            with self.subTest(gone=gone):
                self.assertEqual(last(*setting, tick(gone), when(1)), [0, expected - gone])

    def test_as_next_and_turns_tell_of_one_alone(self):
        for energy in (-1, -7, -90, -1000):
            setting = [come(4, energy), effect(1, -4, 3), effect(1, 9, 5), effect(1, -20, 8)]
            with self.subTest(energy=energy):
                ticks = last(*setting, when(1))[1]
                self.assertEqual(last(*setting, wait()), [0, ticks, 1])
                self.assertEqual(last(*setting, turns(1, [1])), [0, 1, ticks])

    def test_no_such_actor(self):
        self.assertEqual(last(when(1)), [-3])
        self.assertEqual(last(come(1, -1), when(2)), [-3])
        self.assertEqual(last(come(1, -1), leave(1), when(1)), [-3])


if __name__ == "__main__":
    unittest.main()
