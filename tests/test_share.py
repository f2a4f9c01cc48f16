"""However fast the others are, nobody gets more or less than their share, to within one act and one tick."""

import unittest

from tests.helper import act, ask, book, come, effect, last, look, turns, wait, when

SPEEDS = [1, 7, 10, 33, 250, 1000]
COSTS = [40, 9, 120, 55, 700, 1000]


def turns_of(told):
    return list(zip(told[1::2], told[2::2]))


class Share(unittest.TestCase):
    def setUp(self):
        self.setting = [come(speed, -cost) for speed, cost in zip(SPEEDS, COSTS)]

    def test_what_is_spent_is_what_is_gained(self):
        line = list(self.setting)
        for k in range(150):
            whose = last(*line, wait())[2]
            line += [wait(), act(whose, COSTS[whose - 1])]
        books = ask(*line, *[book(k) for k in range(1, 7)])[len(line):]
        for speed, cost, told in zip(SPEEDS, COSTS, books):
            acted, gained, spent = told[1:]
            with self.subTest(speed=speed):
                self.assertEqual(spent, acted * cost)
                # Each began with its cost to make up for.
                self.assertLess(gained - spent - cost, speed)
                self.assertLessEqual(0, gained - spent)

    def test_the_energy_stays_within_one_act_and_one_tick(self):
        line = list(self.setting)
        for k in range(60):
            told = ask(*line, wait(), *[look(k) for k in range(1, 7)])[len(line):]
            for speed, cost, one in zip(SPEEDS, COSTS, told[1:]):
                self.assertLess(one[1], speed)
                self.assertLessEqual(-cost, one[1])
            whose = told[0][2]
            line += [wait(), act(whose, COSTS[whose - 1])]

    def test_turns_come_when_the_share_is_made_up_for(self):
        # The k-th act of one comes with the first tick that makes up for k costs, whatever the others do.
        times = {}
        for whose, ticks in turns_of(last(*self.setting, turns(100, COSTS))):
            times.setdefault(whose, []).append(ticks)
        for whose, told in times.items():
            cost, speed = COSTS[whose - 1], SPEEDS[whose - 1]
            with self.subTest(whose=whose):
                self.assertEqual(told, [-(-cost * k // speed) for k in range(1, len(told) + 1)])

    def test_the_first_turn_of_each_comes_when_it_was_foretold(self):
        setting = self.setting[:4] + [effect(1, 60, 2), effect(3, -10, 3), effect(4, -5000, 2)]
        foretold = ask(*setting, *[when(k) for k in range(1, 5)])[len(setting):]
        first = {}
        for whose, ticks in turns_of(last(*setting, turns(100, COSTS[:4]))):
            first.setdefault(whose, ticks)
        self.assertEqual([[0, first[k]] for k in range(1, 5)], foretold)


if __name__ == "__main__":
    unittest.main()
