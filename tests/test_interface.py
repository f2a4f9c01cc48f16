"""energyturns.dungeon.answers: one list in, one list out, and nothing else touched."""

import contextlib
import inspect
import io
import unittest

import energyturns.dungeon
from energyturns.dungeon import answers
from tests.helper import (
    act, ask, book, come, dispel, effect, flat, leave, look, push, queue, speed, split, tick, time, turns, wait, when)

LINE = flat([
    come(30, -60), come(10, -60), effect(1, -5, 3), wait(), act(1, 60), act(2, 9), tick(4), speed(2, 40), dispel(1),
    come(0, 0), wait(), act(2, 100), push(1, 7), queue(), look(1), when(2), turns(5, [3, 900]), turns(5, [3, 0]),
    turns(5, []), book(2), time(), leave(2), leave(2), tick(1000000), act(1, 1000000), effect(1, 4, 90), look(1),
    turns(100, [1000000]), wait(), time(),
])


class Untouchable(list):
    """A list that can only be read: not even a change that is taken back goes unseen."""

    def refuse(self, *args, **kwargs):
        raise AssertionError("what is handed in was changed")

    append = extend = insert = pop = remove = clear = sort = reverse = refuse
    __setitem__ = __delitem__ = __iadd__ = __imul__ = refuse


class Form(unittest.TestCase):
    def test_how_many_numbers_stand_before_each_answer(self):
        calls = [0, 5, -10, 0, 9, -1, 3, 1, 2, 1, 2, 2, 1, 6, 1, 6, 1001]
        self.assertEqual(answers(calls), [2, 0, 1, 2, 0, 2, 3, 0, 1, 2, 1, 0, 1, -3, 3, 0, 1, 1, 2, 0, 5, 1, -1])

    def test_a_row_stands_behind_how_many_numbers_it_has(self):
        calls = [0, 5, -10, 0, 9, -1, 12, 2, 2, 30, 20, 12, 1, 0, 12, 1, 3, 1, 1, 1, 12, 1, 1, 0, 14]
        self.assertEqual(answers(calls), [2, 0, 1, 2, 0, 2, 5, 0, 2, 1, 1, 2, 1, -7, 1, -7, 1, -1, 5, 0, 0, 2, 2, 0])

    def test_an_answer_of_nothing_more_is_its_zero_alone(self):
        self.assertEqual(answers([9, 12, 5, 0, 9]), [1, 0, 1, 0, 1, 0])

    def test_a_row_of_a_hundred(self):
        self.assertEqual(answers([12, 1, 100] + [7] * 100 + [9]), [1, -7, 1, 0])
        self.assertEqual(answers([12, 1, 100] + [0] * 100 + [9]), [1, -1, 1, 0])

    def test_the_longest_list(self):
        calls = [12, 1, 100] + [7] * 100
        line = calls * 155 + [14] * 35
        self.assertEqual(len(line), 16000)
        self.assertEqual(split(answers(line)), [[-7]] * 155 + [[0, 0, 0, 0, 0]] * 35)

    def test_numbers_like_a_calls_place_within_a_row(self):
        self.assertEqual(answers([0, 1, -1, 12, 1, 1, 12, 14]), [2, 0, 1, 3, 0, 1, 1, 5, 0, 0, 1, 1, 0])

    def test_a_single_call(self):
        self.assertEqual(answers([3]), [1, -3])
        self.assertEqual(answers([2, 5]), [3, 0, 5, 0])
        self.assertEqual(answers([0, 1, -1]), [2, 0, 1])

    def test_plain_whole_numbers_in_a_plain_list(self):
        got = answers(LINE)
        self.assertIs(type(got), list)
        self.assertEqual({type(number) for number in got}, {int})

    def test_the_parameter(self):
        self.assertEqual(list(inspect.signature(energyturns.dungeon.answers).parameters), ["calls"])
        self.assertEqual(answers(calls=[3]), [1, -3])

    def test_400_calls(self):
        got = ask(come(1, -1), *[wait(), act(1, 1)] * 199, wait())
        self.assertEqual(got, [[0, 1]] + [[0, 1, 1], [0, -1]] * 199 + [[0, 1, 1]])


class NothingKept(unittest.TestCase):
    def test_the_list_handed_in_is_the_same_afterwards(self):
        line = list(LINE)
        answers(line)
        self.assertEqual(line, LINE)

    def test_nor_is_it_changed_for_a_while(self):
        self.assertEqual(answers(Untouchable(LINE)), answers(LINE))

    def test_two_times_answer_alike(self):
        first = answers(list(LINE))
        self.assertEqual(answers(list(LINE)), first)
        self.assertEqual(answers([0, 1, -1]), [2, 0, 1])
        self.assertEqual(answers([0, 1, -1]), [2, 0, 1])
        self.assertEqual(answers([3]), [1, -3])
        self.assertEqual(answers(list(LINE)), first)

    def test_changing_an_answer_changes_no_later_one(self):
        first = answers(LINE)
        kept = list(first)
        first.clear()
        self.assertEqual(answers(LINE), kept)
        self.assertIsNot(answers(LINE), answers(LINE))

    def test_nothing_is_printed(self):
        out, err = io.StringIO(), io.StringIO()
        with contextlib.redirect_stdout(out), contextlib.redirect_stderr(err):
            answers(LINE)
        self.assertEqual([out.getvalue(), err.getvalue()], ["", ""])


if __name__ == "__main__":
    unittest.main()
