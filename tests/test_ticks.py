"""Calls 2 tick and 3 next: how ticks go by."""

import unittest

from tests.helper import act, ask, come, dispel, effect, last, leave, tick, wait


class Tick(unittest.TestCase):
    def test_nobody_there(self):
        self.assertEqual(ask(tick(1), tick(7), tick(1000000)), [[0, 1, 0], [0, 7, 0], [0, 1000000, 0]])

    def test_fewer_than_told_are_enough(self):
        self.assertEqual(last(come(3, -10), tick(100)), [0, 4, 1])

    def test_just_enough(self):
        self.assertEqual(last(come(3, -10), tick(4)), [0, 4, 1])
        self.assertEqual(last(come(5, -10), tick(2)), [0, 2, 1])

    def test_not_enough(self):
        self.assertEqual(ask(come(3, -10), tick(3), tick(1)), [[0, 1], [0, 3, 0], [0, 1, 1]])

    def test_zero_energy_is_ready(self):
        self.assertEqual(ask(come(5, -10), tick(9), tick(1)), [[0, 1], [0, 2, 1], [-5]])

    def test_energy_one_below_zero_is_not_ready(self):
        self.assertEqual(ask(come(3, -10), tick(3), act(1, 1), tick(1), act(1, 1))[2:], [[-6], [0, 1, 1], [0, 1]])

    def test_refused_while_somebody_is_ready(self):
        self.assertEqual(ask(come(5, -5), come(1, -900), wait(), tick(1), tick(1000000))[3:], [[-5], [-5]])

    def test_refused_changes_nothing(self):
        plain = ask(come(5, -5), come(1, -9), wait(), act(1, 20), effect(2, 1, 3), wait(), act(2, 4))
        got = ask(come(5, -5), come(1, -9), wait(), tick(3), act(1, 20), effect(2, 1, 3), wait(), tick(9), act(2, 4))
        self.assertEqual([got.pop(7), got.pop(3)], [[-5], [-5]])
        self.assertEqual(got, plain)

    def test_every_actor_gains_by_its_own_speed(self):
        self.assertEqual(
            ask(come(3, -10), come(7, -50), tick(3), tick(9), act(1, 100), wait(), act(2, 1)),
            [[0, 1], [0, 2], [0, 3, 0], [0, 1, 1], [0, -98], [0, 4, 2], [0, 5]])

    def test_long_waits(self):
        self.assertEqual(last(come(1, -1000000), tick(1000000)), [0, 1000000, 1])
        self.assertEqual(ask(come(1, -1000000), tick(999999), tick(1000000))[1:], [[0, 999999, 0], [0, 1, 1]])
        still = [come(1, -1), effect(1, -5000, 1000000)]
        self.assertEqual(ask(*still, tick(1000000), tick(1000000))[2:], [[0, 1000000, 0], [0, 1, 1]])

    def test_many_long_waits_in_one_line(self):
        line = [come(1, -1000000)] + [tick(1000000), act(1, 1000000)] * 199
        got = ask(*line)
        self.assertEqual(got[1:], [[0, 1000000, 1], [0, -1000000]] * 199)


class Next(unittest.TestCase):
    def test_nobody_there(self):
        self.assertEqual(last(wait()), [-3])
        self.assertEqual(last(tick(5), wait()), [-3])
        self.assertEqual(last(come(1, -1), leave(1), wait()), [-3])

    def test_until_somebody_is_ready(self):
        self.assertEqual(last(come(3, -10), wait()), [0, 4, 1])
        self.assertEqual(last(come(3, -10), come(4, -9), wait()), [0, 3, 2])

    def test_no_tick_if_somebody_is_ready_already(self):
        self.assertEqual(
            ask(come(3, -10), come(1, -5), wait(), wait(), wait(), act(1, 3), wait())[3:],
            [[0, 0, 1], [0, 0, 1], [0, -1], [0, 1, 1]])

    def test_behind_a_tick_only_the_rest(self):
        self.assertEqual(ask(come(3, -10), tick(2), wait())[1:], [[0, 2, 0], [0, 2, 1]])

    def test_long_waits(self):
        self.assertEqual(last(come(1, -1000000), wait()), [0, 1000000, 1])
        self.assertEqual(last(come(1, -1), effect(1, -5000, 1000000), wait()), [0, 1000001, 1])
        self.assertEqual(last(come(1, -1000000), effect(1, -1, 1000000), wait()), [0, 2000000, 1])
        self.assertEqual(last(come(1, -1000000), effect(1, -1, 1000000), wait(), act(1, 5)), [0, -5])

    def test_all_sixteen_held_by_eight_effects_each(self):
        line = []
        for number in range(1, 17):
            line.append(come(number, -1000000))
            line += [effect(number, -5000, 1000000 - 100 * number - k) for k in range(8)]
        # 16 is free behind 998400 ticks; 1000000 // 16 more of them and it's ready.
        self.assertEqual(last(*line, wait()), [0, 998400 + 62500, 16])

    def test_a_refusal_changes_nothing(self):
        self.assertEqual(ask(wait(), come(3, -10), wait()), [[-3], [0, 1], [0, 4, 1]])

    def test_many_turns(self):
        line = [come(1000, -1)] + [wait(), act(1, 1000)] * 199
        self.assertEqual(ask(*line)[1:5], [[0, 1, 1], [0, -1], [0, 1, 1], [0, -1]])


class TickAndNextAlike(unittest.TestCase):
    def test_many_short_ticks_are_one_long_wait(self):
        setting = [come(7, -1000), come(5, -900), effect(1, -9, 13), effect(1, 4, 5), effect(2, 30, 11),
                   effect(2, -50, 29)]
        went = last(*setting, wait())[1]
        singly = ask(*setting, *[tick(1)] * went)[len(setting):]
        self.assertEqual([part[2] for part in singly[:-1]], [0] * (went - 1))
        self.assertEqual(singly[-1][2], last(*setting, wait())[2])
        whose = singly[-1][2]
        self.assertEqual(last(*setting, *[tick(1)] * went, act(whose, 1)), last(*setting, wait(), act(whose, 1)))

    def test_dispel_between_ticks(self):
        self.assertEqual(ask(come(2, -20), effect(1, 4, 9), tick(2), dispel(1), wait())[2:],
                         [[0, 2, 0], [0, 2], [0, 4, 1]])


if __name__ == "__main__":
    unittest.main()
