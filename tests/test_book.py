"""Calls 13 book and 14 time: what has happened so far."""

import unittest

from energyturns.actor import Actor
from tests.helper import act, ask, book, come, dispel, effect, last, leave, look, push, speed, tick, time, wait


class Book(unittest.TestCase):
    def test_all_zero_at_first(self):
        self.assertEqual(last(come(10, -100), book(1)), [0, 0, 0, 0])
        self.assertEqual(last(come(10, -100), tick(3), come(10, -100), book(2)), [0, 0, 0, 0])

    def test_ticks_are_gained(self):
        self.assertEqual(ask(come(10, -100), come(4, -900), effect(1, 20, 2), tick(3), book(1), book(2))[4:],
                         [[0, 0, 70, 0], [0, 0, 12, 0]])

    def test_what_is_beyond_the_bounds_is_not_gained(self):
        self.assertEqual(last(come(10, -10 ** 6), effect(1, -500, 3), tick(4), book(1)), [0, 0, 10, 0])
        self.assertEqual(last(come(900, -10 ** 6), effect(1, 5000, 3), tick(4), book(1)), [0, 0, 15900, 0])

    def test_acts_are_counted_and_spent(self):
        self.assertEqual(ask(come(10, -100), wait(), act(1, 30), book(1), wait(), act(1, 7), act(1, 5), book(1))[3:],
                         [[0, 1, 100, 30], [0, 3, 1], [0, -7], [-6], [0, 2, 130, 37]])

    def test_refused_acts_are_not(self):
        self.assertEqual(last(come(10, -100), act(1, 30), wait(), act(1, 0), tick(2), book(1)), [0, 0, 100, 0])

    def test_pushes_are_spent_but_not_acted(self):
        self.assertEqual(ask(come(10, -100), push(1, 40), push(1, 1), book(1), tick(2), book(1))[3:],
                         [[0, 0, 0, 41], [0, 2, 0], [0, 0, 20, 41]])
        self.assertEqual(last(come(10, -100), push(1, 0), push(1, 1000001), book(1)), [0, 0, 0, 0])

    def test_acts_pushes_and_ticks_together(self):
        self.assertEqual(
            last(come(10, -25), wait(), act(1, 12), push(1, 3), tick(1), act(1, 9), wait(), act(1, 20), push(1, 100),
                 tick(2), book(1)),
            [0, 3, 30 + 10 + 10 + 20, 12 + 3 + 9 + 20 + 100])

    def test_each_has_its_own(self):
        self.assertEqual(
            ask(come(10, -20), come(5, -90), wait(), act(1, 15), push(2, 6), tick(1), book(1), book(2))[6:],
            [[0, 1, 30, 15], [0, 0, 15, 6]])

    def test_other_calls_write_nothing_down(self):
        self.assertEqual(last(come(10, -20), tick(1), effect(1, 5, 9), speed(1, 9), dispel(1), book(1)), [0, 0, 10, 0])

    def test_energy_is_the_first_and_gained_less_spent(self):
        line = [come(17, -90), come(23, -40), effect(2, 9, 4), wait(), act(2, 33), push(1, 50), wait(), act(1, 8),
                wait()]
        for number, first in ((1, -90), (2, -40)):
            acted, gained, spent = last(*line, book(number))[1:]
            self.assertEqual(last(*line, look(number))[1], first + gained - spent)

    def test_long_waits(self):
        line = [come(1, -1000000)] + [wait(), act(1, 1000000)] * 150
        self.assertEqual(last(*line, book(1)), [0, 150, 150000000, 150000000])
        self.assertEqual(last(*line, time()), [0, 150000000, 1, 1, 0])
        self.assertEqual(last(come(1, -1000000), *[push(1, 1000000)] * 390, wait(), book(1)),
                         [0, 0, 391000000, 390000000])

    def test_one_act_on_its_own(self):
        actor = Actor(3, 10, -5)
        actor.act(4)
        self.assertEqual([actor.energy, actor.acted, actor.gained, actor.spent], [-9, 1, 0, 4])

    def test_no_such_actor(self):
        self.assertEqual(last(book(1)), [-3])
        self.assertEqual(last(come(1, -1), book(2)), [-3])
        self.assertEqual(last(come(1, -1), leave(1), book(1)), [-3])


class Time(unittest.TestCase):
    def test_at_first(self):
        self.assertEqual(last(time()), [0, 0, 0, 0, 0])

    def test_ticks_of_tick_and_next_together(self):
        self.assertEqual(
            ask(tick(7), time(), come(10, -100), tick(3), time(), wait(), time(), wait(), tick(5), act(1, 11), wait(),
                time(), leave(1), tick(2), time())[1:],
            [[0, 7, 0, 0, 0], [0, 1], [0, 3, 0], [0, 10, 1, 1, 0], [0, 7, 1], [0, 17, 1, 1, 1], [0, 0, 1], [-5],
             [0, -11], [0, 2, 1], [0, 19, 1, 1, 1], [0], [0, 2, 0], [0, 21, 1, 0, 0]])

    def test_fewer_ticks_than_told_are_what_went_by(self):
        self.assertEqual(last(come(5, -10), tick(1000000), time()), [0, 2, 1, 1, 1])

    def test_those_who_left_are_among_those_who_have_come(self):
        self.assertEqual(last(come(1, -9), come(1, -9), come(1, -9), leave(2), time()), [0, 0, 3, 2, 0])
        self.assertEqual(last(come(1, -9), leave(1), come(1, -9), leave(2), time()), [0, 0, 2, 0, 0])

    def test_refused_ones_have_not_come(self):
        self.assertEqual(last(*[come(1, -9)] * 18, come(0, -9), time()), [0, 0, 16, 16, 0])

    def test_whose_turn_it_is(self):
        self.assertEqual(
            ask(come(5, -5), come(6, -5), come(5, -4), wait(), time(), act(2, 1), time(), push(3, 9), time(),
                leave(1), time(), act(2, 1), time())[4::2],
            [[0, 1, 3, 3, 2], [0, 1, 3, 3, 3], [0, 1, 3, 3, 1], [0, 1, 3, 2, 2], [0, 1, 3, 2, 0]])

    def test_the_most_ticks(self):
        self.assertEqual(last(*[tick(1000000)] * 399, time()), [0, 399000000, 0, 0, 0])


if __name__ == "__main__":
    unittest.main()
