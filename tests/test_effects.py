"""Calls 5 effect, 6 dispel and 7 speed: how fast an actor is, and for how long."""

import unittest

from tests.helper import act, ask, come, dispel, effect, last, leave, speed, tick, wait


class Effect(unittest.TestCase):
    def test_speed_is_the_sum(self):
        self.assertEqual(ask(come(10, -100), effect(1, 5, 9), effect(1, -7, 9), effect(1, 0, 9))[1:],
                         [[0, 15], [0, 8], [0, 8]])

    def test_below_zero_is_zero(self):
        self.assertEqual(ask(come(10, -100), effect(1, -10, 9), effect(1, -1, 9), effect(1, 2, 9))[1:],
                         [[0, 0], [0, 0], [0, 1]])

    def test_above_5000_is_5000(self):
        self.assertEqual(ask(come(10, -100), effect(1, 4990, 9), effect(1, 1, 9), effect(1, -2, 9))[1:],
                         [[0, 5000], [0, 5000], [0, 4999]])
        self.assertEqual(last(come(1000, -1), *[effect(1, 5000, 1)] * 8), [0, 5000])

    def test_the_whole_sum_is_bounded_not_its_parts(self):
        line = [come(10, -100), effect(1, 5000, 9), effect(1, 5000, 9), effect(1, -5000, 9), effect(1, -5000, 9)]
        self.assertEqual(ask(*line)[1:], [[0, 5000], [0, 5000], [0, 5000], [0, 10]])
        line = [come(10, -100), effect(1, -5000, 9), effect(1, -5000, 9), effect(1, 5000, 9), effect(1, 5000, 9)]
        self.assertEqual(ask(*line)[1:], [[0, 0], [0, 0], [0, 0], [0, 10]])

    def test_bounded_speeds_are_what_is_gained(self):
        self.assertEqual(ask(come(10, -5001), effect(1, 5000, 9), wait(), act(1, 1))[2:], [[0, 2, 1], [0, 4998]])
        self.assertEqual(ask(come(10, -20), effect(1, -500, 3), tick(3), wait(), act(1, 1))[2:],
                         [[0, 3, 0], [0, 2, 1], [0, -1]])

    def test_eight_and_a_ninth(self):
        got = ask(come(10, -100), *[effect(1, 1, 5)] * 9, dispel(1))
        self.assertEqual(got[1:], [[0, 10 + k] for k in range(1, 9)] + [[-4], [0, 10]])

    def test_the_ninth_changes_nothing(self):
        self.assertEqual(last(come(10, -100), *[effect(1, 1, 5)] * 8, effect(1, 900, 9), wait()), [0, 6, 1])
        self.assertEqual(last(come(10, -100), *[effect(1, 1, 5)] * 8, effect(1, 900, 9), speed(1, 10)), [0, 18])

    def test_effects_that_are_gone_make_room(self):
        eight = [effect(1, 1, 2)] * 7 + [effect(1, 1, 1)]
        self.assertEqual(ask(come(10, -100), *eight, tick(1), effect(1, 1, 1), effect(1, 1, 1))[9:],
                         [[0, 1, 0], [0, 18], [-4]])

    def test_eight_for_each_actor(self):
        line = [come(10, -100), come(20, -100)] + [effect(1, 1, 5)] * 8
        self.assertEqual(ask(*line, effect(2, 1, 5), effect(1, 1, 5))[10:], [[0, 21], [-4]])

    def test_only_the_named_actor_is_changed(self):
        self.assertEqual(ask(come(10, -100), come(20, -100), effect(2, 30, 9), speed(1, 11), speed(2, 21))[2:],
                         [[0, 50], [0, 11], [0, 51]])

    def test_no_such_actor_comes_before_full(self):
        self.assertEqual(last(come(10, -100), *[effect(1, 1, 5)] * 8, leave(1), effect(1, 1, 5)), [-3])

    def test_on_a_ready_one(self):
        self.assertEqual(ask(come(10, -10), wait(), effect(1, 5, 1), act(1, 20), wait(), act(1, 1))[2:],
                         [[0, 15], [0, -20], [0, 2, 1], [0, 4]])


class Lasting(unittest.TestCase):
    def test_n_ticks_are_just_n_ticks(self):
        for n in range(1, 12):
            with self.subTest(n=n):
                setting = [come(10, -1000), effect(1, 7, n)]
                if n > 1:
                    self.assertEqual(last(*setting, tick(n - 1), speed(1, 10)), [0, 17])
                self.assertEqual(last(*setting, tick(n), speed(1, 10)), [0, 10])
                self.assertEqual(last(*setting, *[tick(1)] * n, speed(1, 10)), [0, 10])
                # -1000, and 7 more in each of n ticks.
                rest = 1000 - 7 * n
                self.assertEqual(last(*setting, wait()), [0, -(-rest // 10), 1])

    def test_ends_between_two_ticks_of_one_call(self):
        self.assertEqual(ask(come(10, -100), effect(1, 10, 3), tick(100), act(1, 1))[2:], [[0, 7, 1], [0, -1]])
        self.assertEqual(ask(come(10, -100), effect(1, -10, 3), tick(100), act(1, 1))[2:], [[0, 13, 1], [0, -1]])

    def test_several_with_different_ends(self):
        setting = [come(10, -1000), effect(1, 5, 4), effect(1, -8, 2), effect(1, 90, 7), effect(1, 3, 2)]
        # 100 100 105 105 100 100 100 10 10 ..
        speeds = [100, 100, 105, 105, 100, 100, 100]
        for n in range(1, 8):
            with self.subTest(n=n):
                expected = speeds[n] if n < 7 else 10
                self.assertEqual(last(*setting, tick(n), speed(1, 10)), [0, expected])
        self.assertEqual(ask(*setting, wait(), act(1, 1))[5:], [[0, 36, 1], [0, -1]])

    def test_an_end_on_the_tick_of_getting_ready(self):
        self.assertEqual(ask(come(10, -100), effect(1, 40, 2), wait(), speed(1, 10), act(1, 1))[2:],
                         [[0, 2, 1], [0, 10], [0, -1]])

    def test_ends_of_other_actors_effects(self):
        self.assertEqual(
            ask(come(1, -500), come(10, -100), effect(1, 99, 1), effect(2, -5, 4), effect(2, -5, 2),
                wait(), act(2, 1))[5:],
            [[0, 13, 2], [0, -1]])

    def test_no_tick_no_time(self):
        self.assertEqual(last(come(10, -10), wait(), effect(1, 5, 1), wait(), wait(), speed(1, 10)), [0, 15])

    def test_each_lasts_from_when_it_came(self):
        self.assertEqual(
            ask(come(10, -100), effect(1, 5, 3), tick(1), effect(1, 1, 3), tick(2), tick(1), speed(1, 10))[3:],
            [[0, 16], [0, 2, 0], [0, 1, 0], [0, 10]])

    def test_the_longest_effect(self):
        setting = [come(1, -1), effect(1, -1, 1000000)]
        self.assertEqual(ask(*setting, tick(999999), speed(1, 1), tick(1), speed(1, 1), wait())[2:],
                         [[0, 999999, 0], [0, 0], [0, 1, 0], [0, 1], [0, 1, 1]])

    def test_a_capped_speed_while_effects_end_singly(self):
        # 5000 for three ticks (of 10010, 10010, 5010), then 10.
        self.assertEqual(ask(come(10, -15020), effect(1, 5000, 2), effect(1, 5000, 3), wait())[3:], [[0, 5, 1]])


class Dispel(unittest.TestCase):
    def test_all_effects_are_gone(self):
        self.assertEqual(ask(come(10, -100), effect(1, 5, 9), effect(1, -50, 9), dispel(1), wait())[3:],
                         [[0, 10], [0, 10, 1]])

    def test_without_effects(self):
        self.assertEqual(last(come(10, -100), dispel(1)), [0, 10])

    def test_room_for_eight_again(self):
        self.assertEqual(last(come(10, -100), *[effect(1, 1, 5)] * 8, dispel(1), *[effect(1, 2, 5)] * 8), [0, 26])

    def test_only_the_named_actors(self):
        self.assertEqual(
            ask(come(10, -100), come(20, -100), effect(1, 1, 9), effect(2, 2, 9), dispel(1), speed(2, 20))[4:],
            [[0, 10], [0, 22]])

    def test_keeps_a_changed_base_speed(self):
        self.assertEqual(last(come(10, -100), effect(1, 1, 9), speed(1, 40), dispel(1)), [0, 40])

    def test_keeps_the_energy(self):
        self.assertEqual(last(come(10, -100), effect(1, 50, 9), tick(1), dispel(1), wait()), [0, 4, 1])


class Speed(unittest.TestCase):
    def test_base_speed_is_changed(self):
        self.assertEqual(ask(come(10, -100), speed(1, 25), wait(), act(1, 1))[1:], [[0, 25], [0, 4, 1], [0, -1]])

    def test_answers_the_speed_with_effects(self):
        self.assertEqual(ask(come(10, -100), effect(1, 5, 9), speed(1, 30), effect(1, -1000, 9), speed(1, 990))[2:],
                         [[0, 35], [0, 0], [0, 0]])
        self.assertEqual(ask(come(10, -100), effect(1, 4500, 9), speed(1, 1000))[1:], [[0, 4510], [0, 5000]])

    def test_effects_go_on(self):
        self.assertEqual(ask(come(10, -100), effect(1, 10, 3), tick(1), speed(1, 5), tick(3), speed(1, 7))[3:],
                         [[0, 15], [0, 3, 0], [0, 7]])

    def test_only_the_named_actors(self):
        self.assertEqual(ask(come(10, -100), come(20, -100), speed(2, 99), dispel(1), dispel(2))[2:],
                         [[0, 99], [0, 10], [0, 99]])

    def test_between_ticks(self):
        self.assertEqual(ask(come(10, -100), tick(4), speed(1, 1), tick(10), speed(1, 1000), wait(), act(1, 50))[1:],
                         [[0, 4, 0], [0, 1], [0, 10, 0], [0, 1000], [0, 1, 1], [0, 900]])


if __name__ == "__main__":
    unittest.main()
