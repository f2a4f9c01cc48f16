"""Many made-up lines against the plain model, which lets each tick go by singly."""

import random
import unittest

from energyturns.dungeon import answers
from tests.helper import (
    Model, act, book, come, dispel, effect, flat, leave, look, push, queue, speed, split, tick, time, turns, wait, when)

WRONG = [-10 ** 18, -1000001, 0, 1001, 1000001, 10 ** 18]


class Maker:
    """Makes calls that mostly go through: the model tells it who is there and whose turn it is."""

    def __init__(self, seed):
        self.chance = random.Random(seed)

    def actor(self, model):
        if model.there and self.chance.random() < 0.9:
            return self.chance.choice(sorted(model.there))
        return self.chance.randint(1, model.given + 2)

    def more(self):
        return self.chance.choice([self.chance.randint(-30, 30), self.chance.randint(-5000, 5000), -5000, 5000])

    def costs(self, model):
        count = len(model.there)
        if self.chance.random() < 0.1:
            count = self.chance.choice([0, 1, count + 1, 16, 100])
        costs = [self.chance.choice([1, self.chance.randint(1, 40), self.chance.randint(1, 400)]) for k in range(count)]
        if costs and self.chance.random() < 0.05:
            costs[self.chance.randrange(count)] = self.chance.choice([-10 ** 18, -1, 0, 1000001, 10 ** 18])
        return costs

    def question(self, model):
        who = self.actor(model)
        many = self.chance.choice([1, self.chance.randint(1, 9), self.chance.randint(1, 25)])
        if self.chance.random() < 0.03:
            many = self.chance.choice([-10 ** 18, -1, 0, 101, 10 ** 18])
        call = self.chance.choice([queue(), look(who), when(who), turns(many, self.costs(model)), book(who), time()])
        if len(call) == 2 and self.chance.random() < 0.03:
            call[1] = self.chance.choice(WRONG)
        return call

    def call(self, model):
        chance = self.chance
        who = self.actor(model)
        if model.first() and chance.random() < 0.5:
            return act(model.first(), chance.choice([1, chance.randint(1, 60), chance.randint(1, 6000)]))
        call = chance.choice([
            come(chance.choice([1, 1000, chance.randint(1, 30)]), -chance.choice([1, chance.randint(1, 400)])),
            leave(who) if chance.random() < 0.3 else wait(),
            tick(chance.randint(1, 12)),
            wait(),
            act(who, chance.randint(1, 100)),
            effect(who, self.more(), chance.randint(1, 25)),
            effect(who, self.more(), chance.randint(1, 5)),
            dispel(who) if chance.random() < 0.3 else wait(),
            speed(who, chance.randint(1, 40)),
            push(who, chance.choice([1, chance.randint(1, 60)])),
        ])
        if len(call) > 1 and chance.random() < 0.03:
            call[chance.randrange(1, len(call))] = chance.choice(WRONG)
        return call


def made_line(seed, length):
    maker, model = Maker(seed), Model()
    calls, expected = [], []
    for k in range(length):
        call = maker.question(model) if maker.chance.random() < 0.4 else maker.call(model)
        calls.append(call)
        expected.append(model.answer(call))
    return calls, expected


class AgainstTheModel(unittest.TestCase):
    def test_lines(self):
        seen = {}
        for seed in range(300):
            calls, expected = made_line(seed, 400 if seed < 20 else 90)
            with self.subTest(seed=seed):
                self.assertEqual(split(answers(flat(calls))), expected)
            for call, part in zip(calls, expected):
                seen[call[0], min(part[0], 0)] = True
        # The lines are worth something only if each call is met with each of its refusals.
        wanted = {0: [0, -1, -4], 1: [0, -1, -3], 2: [0, -1, -5], 3: [0, -3], 4: [0, -1, -3, -6],
                  5: [0, -1, -3, -4], 6: [0, -1, -3], 7: [0, -1, -3], 8: [0, -1, -3], 9: [0], 10: [0, -1, -3],
                  11: [0, -1, -3], 12: [0, -1, -7], 13: [0, -1, -3], 14: [0]}
        self.assertEqual(sorted(seen), sorted((place, first) for place in wanted for first in wanted[place]))

    def test_lines_without_their_questions_answer_the_same(self):
        for seed in range(100):
            calls, expected = made_line(seed, 90)
            kept = [k for k in range(len(calls)) if calls[k][0] < 9]
            with self.subTest(seed=seed):
                self.assertEqual(split(answers(flat([calls[k] for k in kept]))), [expected[k] for k in kept])

    def test_lines_without_their_refused_calls_answer_the_same(self):
        for seed in range(100):
            calls, expected = made_line(seed, 90)
            kept = [k for k in range(len(calls)) if expected[k][0] == 0]
            with self.subTest(seed=seed):
                self.assertEqual(split(answers(flat([calls[k] for k in kept]))), [expected[k] for k in kept])


if __name__ == "__main__":
    unittest.main()
