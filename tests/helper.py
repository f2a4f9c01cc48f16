"""What the tests share: the calls by their names, and a plain model that lets each tick go by singly."""

import copy

from energyturns.dungeon import answers


def come(speed, energy):
    return [0, speed, energy]


def leave(actor):
    return [1, actor]


def tick(most):
    return [2, most]


def wait():
    return [3]


def act(actor, cost):
    return [4, actor, cost]


def effect(actor, more, ticks):
    return [5, actor, more, ticks]


def dispel(actor):
    return [6, actor]


def speed(actor, base):
    return [7, actor, base]


def push(actor, energy):
    return [8, actor, energy]


def queue():
    return [9]


def look(actor):
    return [10, actor]


def when(actor):
    return [11, actor]


def turns(many, costs):
    return [12, many, len(costs)] + list(costs)


def book(actor):
    return [13, actor]


def time():
    return [14]


def flat(calls):
    return [number for call in calls for number in call]


def split(answered):
    """The answers of a line, one list each."""
    parts = []
    at = 0
    while at < len(answered):
        count = answered[at]
        part = answered[at + 1:at + 1 + count]
        if count < 1 or len(part) != count:
            raise AssertionError(f"a count that doesn't fit, at {at}: {answered}")
        parts.append(part)
        at += 1 + count
    return parts


def ask(*calls):
    parts = split(answers(flat(calls)))
    if len(parts) != len(calls):
        raise AssertionError(f"{len(calls)} calls, {len(parts)} answers")
    return parts


def last(*calls):
    return ask(*calls)[-1]


BOUNDS = {
    "actor": (1, 400), "speed": (1, 1000), "energy": (-10 ** 6, -1), "most": (1, 10 ** 6), "cost": (1, 10 ** 6),
    "more": (-5000, 5000), "ticks": (1, 10 ** 6), "less": (1, 10 ** 6), "many": (1, 100),
}
WORDS = [
    "speed energy", "actor", "most", "", "actor cost", "actor more ticks", "actor", "actor speed", "actor less", "",
    "actor", "actor", "many", "actor", "",
]


class Model:
    """Word for word what the document says, however slow: used on short waits only."""

    def __init__(self):
        self.given = 0
        self.gone_by = 0
        self.there = {}

    def speed_of(self, number):
        one = self.there[number]
        total = one["base"]
        for more, left in one["effects"]:
            total += more
        if total < 0:
            return 0
        if total > 5000:
            return 5000
        return total

    def first(self):
        best = 0
        for number in sorted(self.there):
            energy = self.there[number]["energy"]
            if energy >= 0 and (best == 0 or energy > self.there[best]["energy"]):
                best = number
        return best

    def one_tick(self):
        self.gone_by += 1
        for number, one in self.there.items():
            one["energy"] += self.speed_of(number)
            one["gained"] += self.speed_of(number)
            kept = []
            for more, left in one["effects"]:
                if left - 1 > 0:
                    kept.append((more, left - 1))
            one["effects"] = kept

    def ticks(self, most):
        went = 0
        while went != most and self.first() == 0:
            self.one_tick()
            went += 1
        return [0, went, self.first()]

    def act(self, number, cost):
        one = self.there[number]
        one["energy"] -= cost
        one["spent"] += cost
        one["acted"] += 1

    def queue(self):
        """The first one, then the first one of those that are left, and so on."""
        other = copy.deepcopy(self)
        numbers = []
        while other.first():
            numbers.append(other.first())
            del other.there[other.first()]
        return numbers

    def when(self, number):
        other = copy.deepcopy(self)
        went = 0
        while other.there[number]["energy"] < 0:
            other.one_tick()
            went += 1
        return went

    def turns(self, many, costs):
        other = copy.deepcopy(self)
        told = []
        went = 0
        while len(told) < 2 * many and other.there:
            went += other.ticks(-1)[1]
            whose = other.first()
            told += [whose, went]
            other.act(whose, costs[sorted(other.there).index(whose)])
        return told

    def answer(self, call):
        place, numbers, costs = call[0], call[1:], []
        if place == 12:
            numbers, costs = call[1:2], call[3:]
        told = list(zip(WORDS[place].split(), numbers, strict=True)) + [("cost", cost) for cost in costs]
        for word, number in told:
            if not BOUNDS[word][0] <= number <= BOUNDS[word][1]:
                return [-1]
        if place == 12:
            return [0] + self.turns(numbers[0], costs) if len(costs) == len(self.there) else [-7]
        return self.accept(place, numbers)

    def accept(self, place, numbers):
        if place == 0:
            if len(self.there) == 16:
                return [-4]
            self.given += 1
            self.there[self.given] = {
                "base": numbers[0], "energy": numbers[1], "effects": [], "acted": 0, "gained": 0, "spent": 0}
            return [0, self.given]
        if place == 2:
            return [-5] if self.first() else self.ticks(numbers[0])
        if place == 3:
            return self.ticks(-1) if self.there else [-3]
        if place == 9:
            return [0] + self.queue()
        if place == 14:
            return [0, self.gone_by, self.given, len(self.there), self.first()]
        if numbers[0] not in self.there:
            return [-3]
        if place in (10, 11, 13):
            return self.tell_of_one(place, numbers[0])
        return self.accept_for_one(place, numbers)

    def accept_for_one(self, place, numbers):
        number = numbers[0]
        one = self.there[number]
        if place == 1:
            del self.there[number]
            return [0]
        if place == 4:
            if self.first() != number:
                return [-6]
            self.act(number, numbers[1])
            return [0, one["energy"]]
        if place == 8:
            one["energy"] -= numbers[1]
            one["spent"] += numbers[1]
            return [0, one["energy"]]
        if place == 5:
            if len(one["effects"]) == 8:
                return [-4]
            one["effects"].append((numbers[1], numbers[2]))
        if place == 6:
            one["effects"] = []
        if place == 7:
            one["base"] = numbers[1]
        return [0, self.speed_of(number)]

    def tell_of_one(self, place, number):
        one = self.there[number]
        if place == 10:
            return [0, one["energy"], one["base"], self.speed_of(number)] + flat(one["effects"])
        if place == 11:
            return [0, self.when(number)]
        return [0, one["acted"], one["gained"], one["spent"]]
