"""Call 12 turns: the turns to come."""

import unittest

from tests.helper import act, ask, book, come, effect, last, leave, look, push, speed, tick, time, turns, wait


def played(setting, many, costs):
    """The turns as they come when they're truly played: next, act, next, act, and so on."""
    there = {number: cost for number, cost in costs}
    told = []
    went = 0
    line = list(setting)
    for k in range(many):
        ticks, whose = last(*line, wait())[1:]
        went += ticks
        told += [whose, went]
        line += [wait(), act(whose, there[whose])]
    return [0] + told


class Turns(unittest.TestCase):
    def test_one_actor(self):
        self.assertEqual(last(come(10, -25), turns(1, [20])), [0, 1, 3])
        self.assertEqual(last(come(10, -25), turns(4, [20])), [0, 1, 3, 1, 5, 1, 7, 1, 9])
        self.assertEqual(last(come(10, -25), turns(4, [14])), [0, 1, 3, 1, 4, 1, 6, 1, 7])

    def test_a_fast_one_and_a_slow_one(self):
        self.assertEqual(last(come(30, -60), come(10, -60), turns(8, [60, 60])),
                         [0, 1, 2, 1, 4, 1, 6, 2, 6, 1, 8, 1, 10, 1, 12, 2, 12])

    def test_the_costs_are_each_ones_own(self):
        self.assertEqual(last(come(10, -10), come(10, -10), turns(5, [10, 30])), [0, 1, 1, 2, 1, 1, 2, 1, 3, 1, 4])
        self.assertEqual(last(come(10, -10), come(10, -10), turns(5, [30, 10])), [0, 1, 1, 2, 1, 2, 2, 2, 3, 1, 4])

    def test_already_ready_ones_come_at_zero(self):
        setting = [come(10, -5), come(10, -9), wait()]
        self.assertEqual(last(*setting, turns(3, [10, 10])), [0, 1, 0, 2, 0, 1, 1])

    def test_ticks_are_counted_from_now(self):
        self.assertEqual(last(tick(500), come(10, -100), tick(4), turns(2, [10])), [0, 1, 6, 1, 7])

    def test_several_turns_at_the_same_tick(self):
        self.assertEqual(last(*[come(5, -5)] * 3, turns(4, [5, 5, 5])), [0, 1, 1, 2, 1, 3, 1, 1, 2])
        self.assertEqual(last(come(5, -5), come(6, -5), come(7, -5), turns(3, [9, 9, 9])), [0, 3, 1, 2, 1, 1, 1])

    def test_several_turns_of_one_behind_another(self):
        self.assertEqual(last(come(10, -1), turns(11, [1])), [0] + [1, 1] * 10 + [1, 2])
        self.assertEqual(last(come(10, -1), come(10, -5), turns(7, [3, 4])),
                         [0, 1, 1, 1, 1, 2, 1, 1, 1, 2, 1, 1, 1, 1, 2])

    def test_effects_that_end_between(self):
        self.assertEqual(last(come(10, -20), effect(1, 10, 3), turns(4, [20])), [0, 1, 1, 1, 2, 1, 3, 1, 5])
        self.assertEqual(last(come(10, -20), effect(1, -10, 3), turns(3, [20])), [0, 1, 5, 1, 7, 1, 9])
        self.assertEqual(last(come(10, -20), come(4, -20), effect(1, -10, 3), turns(4, [20, 8])),
                         [0, 1, 5, 2, 5, 1, 7, 2, 7])

    def test_speeds_just_now(self):
        self.assertEqual(last(come(10, -20), speed(1, 5), turns(2, [20])), [0, 1, 4, 1, 8])

    def test_after_pushes(self):
        self.assertEqual(last(come(10, -20), come(10, -20), push(1, 15), turns(3, [20, 20])), [0, 2, 2, 1, 4, 2, 4])

    def test_the_costs_go_by_the_numbers_after_some_left(self):
        line = [come(10, -10), come(10, -10), come(10, -10), leave(1), come(10, -10), leave(3)]
        self.assertEqual(last(*line, turns(6, [30, 10])), [0, 2, 1, 4, 1, 4, 2, 4, 3, 2, 4, 4, 4])
        self.assertEqual(last(*line, turns(6, [10, 30])), [0, 2, 1, 4, 1, 2, 2, 2, 3, 2, 4, 4, 4])

    def test_the_costs_go_by_the_numbers_not_by_the_order_of_turns(self):
        self.assertEqual(last(come(10, -30), come(10, -10), turns(4, [1000, 10])), [0, 2, 1, 2, 2, 1, 3, 2, 3])

    def test_many_hundreds_of_acts_stand_in_no_book(self):
        self.assertEqual(ask(come(10, -10), turns(100, [3]), book(1), look(1), time())[2:],
                         [[0, 0, 0, 0], [0, -10, 10, 10], [0, 0, 1, 1, 0]])

    def test_a_hundred(self):
        got = last(come(7, -1), come(11, -2), effect(2, -11, 4), turns(100, [13, 17]))
        self.assertEqual(len(got), 201)
        self.assertEqual(got, played([come(7, -1), come(11, -2), effect(2, -11, 4)], 100, [(1, 13), (2, 17)]))

    def test_fewer_turns_are_the_beginning_of_more(self):
        setting = [come(7, -1), come(11, -2), come(3, -40), effect(2, -11, 4)]
        whole = last(*setting, turns(100, [13, 17, 5]))
        for many in (1, 2, 3, 50, 99):
            self.assertEqual(last(*setting, turns(many, [13, 17, 5])), whole[:1 + 2 * many])


class Sixteen(unittest.TestCase):
    def test_sixteen_costs(self):
        line = [come(16, -16)] * 16
        self.assertEqual(last(*line, turns(20, [16] * 16)),
                         [0] + [number for k in range(1, 17) for number in (k, 1)] + [1, 2, 2, 2, 3, 2, 4, 2])
        # Number 16 is back behind each tick, 15 behind each second, 14 behind each third: all with the energy 0.
        expected = [number for k in range(1, 17) for number in (k, 1)] + [16, 2, 15, 3, 16, 3, 14, 4]
        self.assertEqual(last(*line, turns(20, [16 * (17 - k) for k in range(1, 17)])), [0] + expected)

    def test_as_played(self):
        setting = [come(10 + 3 * k, -100 + 5 * k) for k in range(16)] + [effect(k, 40 - 9 * k, k) for k in (2, 7, 16)]
        costs = [20 + 7 * k * k % 91 for k in range(16)]
        self.assertEqual(last(*setting, turns(100, costs)), played(setting, 100, list(enumerate(costs, start=1))))


class Counts(unittest.TestCase):
    def test_nobody_there(self):
        self.assertEqual(last(turns(1, [])), [0])
        self.assertEqual(last(turns(100, [])), [0])
        self.assertEqual(last(come(1, -1), wait(), leave(1), turns(5, [])), [0])
        self.assertEqual(last(turns(1, [1])), [-7])

    def test_an_empty_row(self):
        self.assertEqual(last(come(1, -1), turns(1, [])), [-7])

    def test_fewer_and_more_costs_than_actors(self):
        three = [come(5, -5)] * 3
        for count in (0, 1, 2, 4, 5, 16, 17, 99, 100):
            with self.subTest(count=count):
                self.assertEqual(ask(*three, turns(3, [5] * count), time())[3:], [[-7], [0, 0, 3, 3, 0]])
        sixteen = [come(5, -5)] * 16
        for count in (15, 17, 100):
            with self.subTest(count=count):
                self.assertEqual(ask(*sixteen, turns(3, [5] * count), time())[16:], [[-7], [0, 0, 16, 16, 0]])

    def test_those_who_left_have_no_cost(self):
        line = [come(5, -5), come(5, -5), leave(1)]
        self.assertEqual(ask(*line, turns(1, [5, 5]), turns(1, [5]))[3:], [[-7], [0, 2, 1]])

    def test_out_of_range_comes_before_the_count(self):
        for wrong in (0, -1, 1000001, 10 ** 18, -10 ** 18):
            for costs in ([wrong], [wrong, 1, 1], [1, wrong, 1], [1, 1, wrong], [1] * 99 + [wrong]):
                with self.subTest(costs=costs):
                    self.assertEqual(last(turns(1, costs)), [-1])
                    self.assertEqual(last(come(1, -1), come(1, -1), turns(1, costs)), [-1])
            self.assertEqual(last(turns(wrong, [1])), [-1])
            self.assertEqual(last(turns(wrong, [])), [-1])

    def test_the_call_behind_a_row_is_found(self):
        for count in (0, 1, 2, 100):
            for cost in (0, 1, 12, 14):
                with self.subTest(count=count, cost=cost):
                    self.assertEqual(ask(come(1, -1), come(1, -9), turns(1, [cost] * count), time())[3],
                                     [0, 0, 2, 2, 0])


class LongWaits(unittest.TestCase):
    def test_the_least_speed_and_the_greatest_cost(self):
        got = last(come(1, -1000000), turns(100, [1000000]))
        self.assertEqual(got, [0] + [number for k in range(1, 101) for number in (1, 1000000 * k)])

    def test_again_and_again(self):
        line = [come(1, -1000000)] * 16 + [turns(100, [1000000 - k for k in range(16)])] * 100
        got = ask(*line)
        self.assertEqual(got[16:], [got[16]] * 100)
        self.assertEqual(got[16][:5], [0, 1, 1000000, 2, 1000000])
        # Number 16 has the least cost, so it's the first one of the second round.
        self.assertEqual(got[16][33:37], [16, 1000000 + 1000000 - 15, 15, 2000000 - 14])

    def test_held_by_effects(self):
        self.assertEqual(last(come(1, -1), effect(1, -5000, 1000000), turns(3, [2])),
                         [0, 1, 1000001, 1, 1000003, 1, 1000005])
        line = [come(1, -1), come(2, -3)] + [effect(1 + k % 2, -5000, 1000000 - k) for k in range(16)]
        # 2 is free a tick sooner; at 1000001 it has the energy 1, and number 1 has 0.
        self.assertEqual(last(*line, turns(4, [5, 1])), [0, 2, 1000001, 1, 1000001, 2, 1000001, 2, 1000002])


if __name__ == "__main__":
    unittest.main()
