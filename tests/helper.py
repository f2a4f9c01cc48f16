"""What the tests share: the calls by their names, and a plain model that lets each tick go by singly."""

from energyturns.dungeon import answers


def come(speed, energy):
    return [0, speed, energy]


def leave(actor):
    return [1, actor]


def tick(most):
    return [2, most]


def wait():
    return [3]


def act(actor, cost):
    return [4, actor, cost]


def effect(actor, more, ticks):
    return [5, actor, more, ticks]


def dispel(actor):
    return [6, actor]


def speed(actor, base):
    return [7, actor, base]


def flat(calls):
    return [number for call in calls for number in call]


def split(answered):
    """The answers of a line, one list each."""
    parts = []
    at = 0
    while at < len(answered):
        count = answered[at]
        part = answered[at + 1:at + 1 + count]
        if count < 1 or len(part) != count:
            raise AssertionError(f"a count that doesn't fit, at {at}: {answered}")
        parts.append(part)
        at += 1 + count
    return parts


def ask(*calls):
    parts = split(answers(flat(calls)))
    if len(parts) != len(calls):
        raise AssertionError(f"{len(calls)} calls, {len(parts)} answers")
    return parts


def last(*calls):
    return ask(*calls)[-1]


class Model:
    """Word for word what the document says, however slow: used on short waits only."""

    def __init__(self):
        self.given = 0
        self.there = {}

    def speed_of(self, number):
        one = self.there[number]
        total = one["base"]
        for more, left in one["effects"]:
            total += more
        if total < 0:
            return 0
        if total > 5000:
            return 5000
        return total

    def first(self):
        best = 0
        for number in sorted(self.there):
            energy = self.there[number]["energy"]
            if energy >= 0 and (best == 0 or energy > self.there[best]["energy"]):
                best = number
        return best

    def one_tick(self):
        for number, one in self.there.items():
            one["energy"] += self.speed_of(number)
            kept = []
            for more, left in one["effects"]:
                if left - 1 > 0:
                    kept.append((more, left - 1))
            one["effects"] = kept

    def ticks(self, most):
        went = 0
        while went != most and self.first() == 0:
            self.one_tick()
            went += 1
        return [0, went, self.first()]

    def answer(self, call):
        place, numbers = call[0], call[1:]
        bounds = {
            "actor": (1, 400), "speed": (1, 1000), "energy": (-10 ** 6, -1), "most": (1, 10 ** 6),
            "cost": (1, 10 ** 6), "more": (-5000, 5000), "ticks": (1, 10 ** 6),
        }
        words = ["speed energy", "actor", "most", "", "actor cost", "actor more ticks", "actor", "actor speed"]
        for word, number in zip(words[place].split(), numbers, strict=True):
            if not bounds[word][0] <= number <= bounds[word][1]:
                return [-1]
        return self.accept(place, numbers)

    def accept(self, place, numbers):
        if place == 0:
            if len(self.there) == 16:
                return [-4]
            self.given += 1
            self.there[self.given] = {"base": numbers[0], "energy": numbers[1], "effects": []}
            return [0, self.given]
        if place == 2:
            return [-5] if self.first() else self.ticks(numbers[0])
        if place == 3:
            return self.ticks(-1) if self.there else [-3]
        if numbers[0] not in self.there:
            return [-3]
        return self.accept_for_one(place, numbers)

    def accept_for_one(self, place, numbers):
        number = numbers[0]
        one = self.there[number]
        if place == 1:
            del self.there[number]
            return [0]
        if place == 4:
            if self.first() != number:
                return [-6]
            one["energy"] -= numbers[1]
            return [0, one["energy"]]
        if place == 5:
            if len(one["effects"]) == 8:
                return [-4]
            one["effects"].append((numbers[1], numbers[2]))
        if place == 6:
            one["effects"] = []
        if place == 7:
            one["base"] = numbers[1]
        return [0, self.speed_of(number)]
