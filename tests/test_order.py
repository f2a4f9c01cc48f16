"""Call 4 act, and the order of turns."""

import unittest

from tests.helper import act, ask, come, effect, last, leave, speed, tick, wait


class Act(unittest.TestCase):
    def test_energy_is_less_by_the_cost(self):
        self.assertEqual(ask(come(7, -10), wait(), act(1, 3), act(1, 1), act(1, 1))[1:],
                         [[0, 2, 1], [0, 1], [0, 0], [0, -1]])

    def test_not_ready(self):
        self.assertEqual(last(come(7, -10), act(1, 3)), [-6])
        self.assertEqual(last(come(7, -10), wait(), act(1, 5), act(1, 1)), [-6])

    def test_ready_but_not_first(self):
        self.assertEqual(ask(come(7, -7), come(8, -7), wait(), act(1, 1), act(2, 1))[2:], [[0, 1, 2], [-6], [0, 0]])

    def test_not_ready_while_another_is(self):
        self.assertEqual(last(come(7, -7), come(1, -7), wait(), act(2, 1)), [-6])

    def test_a_refusal_changes_nothing(self):
        before = [come(7, -7), come(9, -7), come(1, -30)]
        behind = [wait(), act(2, 9), act(1, 4), wait()]
        plain = ask(*before, *behind)
        got = ask(*before, act(1, 500), *behind)
        self.assertEqual(got.pop(3), [-6])
        self.assertEqual(got, plain)
        got = ask(*before, wait(), act(1, 500), act(3, 500), *behind[1:])
        self.assertEqual([got.pop(5), got.pop(4)], [[-6], [-6]])
        self.assertEqual(got, plain)

    def test_no_such_actor_comes_before_not_its_turn(self):
        self.assertEqual(last(come(7, -10), act(2, 1)), [-3])
        self.assertEqual(last(come(7, -7), wait(), act(2, 1)), [-3])
        self.assertEqual(last(come(7, -7), wait(), leave(1), act(1, 1)), [-3])

    def test_different_costs(self):
        self.assertEqual(
            ask(come(10, -10), come(15, -10), wait(), act(2, 100), wait(), act(1, 20), wait(), act(1, 40), wait()),
            [[0, 1], [0, 2], [0, 1, 2], [0, -95], [0, 0, 1], [0, -20], [0, 2, 1], [0, -40], [0, 4, 1]])


class Order(unittest.TestCase):
    def test_the_greatest_energy_first(self):
        self.assertEqual(
            ask(come(5, -3), come(5, -1), come(5, -2), wait(), act(2, 90), wait(), act(3, 90), wait(), act(1, 90),
                tick(1))[3:],
            [[0, 1, 2], [0, -86], [0, 0, 3], [0, -87], [0, 0, 1], [0, -88], [0, 1, 0]])

    def test_the_lesser_number_first_with_the_same_energy(self):
        self.assertEqual(
            ask(*[come(5, -5)] * 3, wait(), act(2, 1), act(1, 1), wait(), act(2, 1), wait())[3:],
            [[0, 1, 1], [-6], [0, -1], [0, 0, 2], [0, -1], [0, 0, 3]])

    def test_the_lesser_number_first_with_the_same_energy_above_zero(self):
        self.assertEqual(last(come(1, -90), come(7, -5), come(5, -3), wait()), [0, 1, 2])
        self.assertEqual(last(come(1, -90), come(5, -3), come(7, -5), wait()), [0, 1, 2])

    def test_energy_counts_not_speed(self):
        self.assertEqual(last(come(1000, -1000), come(2, -1), wait()), [0, 1, 2])

    def test_one_goes_on_while_it_has_the_greatest_energy(self):
        self.assertEqual(
            ask(come(10, -1), come(10, -5), wait(), act(1, 3), wait(), act(1, 1), wait(), act(1, 1), wait())[2:],
            [[0, 1, 1], [0, 6], [0, 0, 1], [0, 5], [0, 0, 1], [0, 4], [0, 0, 2]])

    def test_numbers_of_two_digits_by_their_size(self):
        self.assertEqual(last(*[come(5, -9)] * 8, come(5, -5), come(5, -5), wait()), [0, 1, 9])

    def test_the_order_after_some_left(self):
        self.assertEqual(last(*[come(5, -5)] * 4, leave(1), come(5, -5), wait(), act(2, 1), wait()), [0, 0, 3])


class Lines(unittest.TestCase):
    def test_a_fast_one_and_a_slow_one(self):
        line = [come(30, -60), come(10, -60)]
        expected = [[0, 1], [0, 2]]
        # The fast one's third act falls on the tick of the slow one's first, with the same energy.
        for k in range(2):
            line += [wait(), act(1, 60)] * 3 + [wait(), act(2, 60)]
            expected += [[0, 2, 1], [0, -60]] * 3 + [[0, 0, 2], [0, -60]]
        self.assertEqual(ask(*line), expected)

    def test_speeds_effects_and_costs_together(self):
        self.assertEqual(
            ask(come(10, -100), come(20, -100), come(50, -400), effect(1, 15, 2), tick(3), speed(2, 1),
                wait(), act(3, 300), wait(), act(1, 7), tick(2), act(2, 50)),
            [[0, 1], [0, 2], [0, 3], [0, 25], [0, 3, 0], [0, 1],
             [0, 4, 1], [-6], [0, 0, 1], [0, -7], [0, 1, 1], [-6]])


if __name__ == "__main__":
    unittest.main()
