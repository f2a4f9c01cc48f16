"""The calls 9 to 14 ask, and change nothing."""

import unittest

from tests.helper import (
    act, ask, book, come, dispel, effect, leave, look, push, queue, speed, tick, time, turns, wait, when)


def all_questions(there):
    """Every question about those who are there, and some that are refused."""
    return [
        queue(), time(), turns(100, [k + 1 for k in range(len(there))]), turns(1, [1000000] * len(there)),
        turns(3, [1] * (len(there) + 1)), turns(0, []), look(0), when(401), book(400),
    ] + [call(number) for number in there for call in (look, when, book)]


# Each call with the numbers of those who are there behind it.
LINE = [
    (come(10, -100), [1]), (come(25, -90), [1, 2]), (effect(1, -50, 7), [1, 2]), (effect(2, 30, 2), [1, 2]),
    (effect(1, 5, 12), [1, 2]), (come(3, -200), [1, 2, 3]), (tick(1), [1, 2, 3]), (wait(), [1, 2, 3]),
    (act(2, 60), [1, 2, 3]), (act(2, 60), [1, 2, 3]), (push(1, 20), [1, 2, 3]), (speed(3, 80), [1, 2, 3]),
    (wait(), [1, 2, 3]), (act(3, 10), [1, 2, 3]), (tick(5), [1, 2, 3]), (leave(2), [1, 3]), (act(3, 500), [1, 3]),
    (come(40, -40), [1, 3, 4]), (effect(4, -5000, 3), [1, 3, 4]), (tick(2), [1, 3, 4]), (wait(), [1, 3, 4]),
    (dispel(1), [1, 3, 4]), (act(4, 99), [1, 3, 4]), (act(1, 99), [1, 3, 4]), (wait(), [1, 3, 4]),
    (leave(1), [3, 4]), (leave(3), [4]), (push(4, 7), [4]), (wait(), [4]), (leave(4), []), (tick(9), []), (wait(), []),
]


def state(there):
    return [queue(), time()] + [call(number) for number in there for call in (look, book)]


class NothingChanges(unittest.TestCase):
    def test_the_rest_of_a_line_answers_the_same(self):
        calls = [call for call, there in LINE]
        plain = ask(*calls)
        for at, (unused, there) in enumerate(LINE):
            for question in all_questions(there):
                with self.subTest(at=at, question=question):
                    got = ask(*calls[:at + 1], question, *calls[at + 1:])
                    got.pop(at + 1)
                    self.assertEqual(got, plain)

    def test_with_questions_between_all_calls(self):
        mixed, places = [], []
        for call, there in LINE:
            places.append(len(mixed))
            mixed.append(call)
            questions = all_questions(there)
            mixed += questions[len(mixed) % len(questions):][:9]
        self.assertLessEqual(len(mixed), 400)
        got = ask(*mixed)
        self.assertEqual([got[k] for k in places], ask(*[call for call, there in LINE]))

    def test_what_is_told_is_the_same_behind_each_question(self):
        for at in range(len(LINE)):
            before = [call for call, there in LINE[:at + 1]]
            there = LINE[at][1]
            plain = ask(*before, *state(there))[at + 1:]
            for question in all_questions(there):
                with self.subTest(at=at, question=question):
                    self.assertEqual(ask(*before, question, *state(there))[at + 2:], plain)

    def test_the_questions_are_accepted_and_refused_as_meant(self):
        for at in range(len(LINE)):
            before = [call for call, there in LINE[:at + 1]]
            got = ask(*before, *all_questions(LINE[at][1]))[at + 1:]
            with self.subTest(at=at):
                self.assertEqual([part[0] for part in got[:9]], [0, 0, 0, 0, -7, -1, -1, -1, -3])
                self.assertEqual({part[0] for part in got[9:]}, {0} if LINE[at][1] else set())

    def test_each_question_asked_twice(self):
        for at in range(len(LINE)):
            before = [call for call, there in LINE[:at + 1]]
            for question in all_questions(LINE[at][1]):
                with self.subTest(at=at, question=question):
                    got = ask(*before, question, question)
                    self.assertEqual(got[-1], got[-2])


class LongWaits(unittest.TestCase):
    setting = [
        come(1, -1000000), come(2, -1000000), effect(1, -5000, 1000000), effect(1, 3, 999), effect(2, -1, 500000),
        effect(2, -5000, 20),
    ]

    def test_effects_that_would_end_meanwhile(self):
        behind = [look(1), look(2), tick(10), look(1), look(2), tick(1000), look(1), look(2), wait(), look(1),
                  look(2), book(1), book(2), time(), queue()]
        plain = ask(*self.setting, *behind)
        questions = [when(1), when(2), turns(100, [1000000, 1000000]), turns(1, [1, 1])]
        got = ask(*self.setting, *questions, *behind)
        self.assertEqual(got[6:8], [[0, 2000000], [0, 750010]])
        self.assertEqual(got[9], [0, 2, 750010])
        self.assertEqual(got[:6] + got[10:], plain)

    def test_an_effect_that_comes_behind_turns_and_when(self):
        line = [effect(1, 7, 3), look(1), effect(2, 9, 1), look(2), dispel(1), look(1), tick(1), look(2)]
        plain = ask(*self.setting, *line)
        got = ask(*self.setting, turns(9, [5, 5]), when(1), *line)
        self.assertEqual(got[:6] + got[8:], plain)


class Together(unittest.TestCase):
    def test_all_fifteen_calls(self):
        self.assertEqual(
            ask(time(), come(10, -30), come(20, -90), come(5, -10), queue(), effect(1, -4, 2), look(1), when(1),
                when(2), turns(4, [20, 40, 15]), tick(9), queue(), act(3, 15), book(3), push(2, 10), look(2), wait(),
                time(), act(1, 20), speed(3, 50), wait(), queue(), act(3, 15), dispel(1), leave(3), turns(3, [30, 5]),
                book(1), tick(1), tick(8), time()),
            [[0, 0, 0, 0, 0], [0, 1], [0, 2], [0, 3], [0], [0, 6], [0, -30, 10, 6, -4, 2], [0, 4],
             [0, 5], [0, 3, 2, 1, 4, 2, 5, 3, 5], [0, 2, 3], [0, 3], [0, -15], [0, 1, 10, 15], [0, -60],
             [0, -60, 20, 20], [0, 2, 1], [0, 4, 3, 3, 1], [0, -18], [0, 50], [0, 1, 3], [0, 3, 2], [0, 30], [0, 10],
             [0], [0, 2, 0, 2, 1, 2, 1], [0, 1, 42, 20], [-5], [-5], [0, 5, 3, 2, 2]])


if __name__ == "__main__":
    unittest.main()
