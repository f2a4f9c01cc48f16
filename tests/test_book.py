"""What the calls write down: an actor's book, and the ticks that have gone by."""

import unittest

from energyturns.actor import Actor
from energyturns.crowd import Crowd
from energyturns.rules import answer
from tests.helper import act, come, effect, leave, tick, wait


def after(*calls):
    crowd = Crowd()
    for call in calls:
        answer(crowd, call[0], call[1:])
    return crowd


def book(crowd, number):
    actor = crowd.actors[number]
    return [actor.acted, actor.gained, actor.spent]


class Book(unittest.TestCase):
    def test_all_zero_at_first(self):
        self.assertEqual(book(after(come(10, -100)), 1), [0, 0, 0])

    def test_ticks_are_gained(self):
        crowd = after(come(10, -100), come(4, -900), effect(1, 20, 2), tick(3))
        self.assertEqual(book(crowd, 1), [0, 70, 0])
        self.assertEqual(book(crowd, 2), [0, 12, 0])

    def test_what_is_beyond_the_bounds_is_not_gained(self):
        self.assertEqual(book(after(come(10, -10 ** 6), effect(1, -500, 3), tick(4)), 1), [0, 10, 0])
        self.assertEqual(book(after(come(900, -10 ** 6), effect(1, 5000, 3), tick(4)), 1), [0, 15900, 0])

    def test_acts_are_counted_and_spent(self):
        crowd = after(come(10, -100), wait(), act(1, 30), wait(), act(1, 7), act(1, 5))
        self.assertEqual(book(crowd, 1), [2, 130, 37])

    def test_refused_acts_are_not(self):
        self.assertEqual(book(after(come(10, -100), act(1, 30), wait(), act(1, 0), tick(2)), 1), [0, 100, 0])

    def test_energy_is_the_first_and_gained_less_spent(self):
        crowd = after(come(17, -90), come(23, -40), effect(2, 9, 4), wait(), act(2, 33), wait(), act(1, 8), wait())
        for number, first in ((1, -90), (2, -40)):
            actor = crowd.actors[number]
            self.assertEqual(actor.energy, first + actor.gained - actor.spent)

    def test_one_act_on_its_own(self):
        actor = Actor(3, 10, -5)
        actor.act(4)
        self.assertEqual([actor.energy, actor.acted, actor.gained, actor.spent], [-9, 1, 0, 4])


class Ticks(unittest.TestCase):
    def test_none_at_first(self):
        self.assertEqual([Crowd().ticks, Crowd().came, len(Crowd().actors)], [0, 0, 0])

    def test_added_up_over_the_calls(self):
        crowd = after(tick(7), come(10, -100), tick(3), wait(), wait(), tick(5), act(1, 11), wait(), leave(1), tick(2))
        self.assertEqual(crowd.ticks, 7 + 3 + 7 + 0 + 2 + 2)
        self.assertEqual([crowd.came, len(crowd.actors)], [1, 0])


if __name__ == "__main__":
    unittest.main()
