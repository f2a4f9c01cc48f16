"""One actor: its energy, its base speed, its effects and its book."""

GREATEST_SPEED = 5000


class Actor:
    """Its effects are tuples: by how much the speed is changed, and how many ticks that still lasts."""

    def __init__(self, number, base, energy):
        self.number = number
        self.base = base
        self.energy = energy
        self.effects = []
        self.acted = 0
        self.gained = 0
        self.spent = 0

    def twin(self):
        """One like this that shares nothing with it, so that what is to come can be tried out."""
        other = Actor(self.number, self.base, self.energy)
        other.effects = list(self.effects)
        other.acted = self.acted
        other.gained = self.gained
        other.spent = self.spent
        return other

    def speed(self):
        total = self.base + sum([more for more, lasts in self.effects])
        return max(0, min(GREATEST_SPEED, total))

    def is_ready(self):
        return self.energy >= 0

    def steady_ticks(self):
        """For one that isn't ready: how many ticks until it is, or until one of its effects ends if that's sooner.

        There is always such a number: the base speed is above 0, so only effects can hold the speed at 0.
        """
        spans = [lasts for more, lasts in self.effects]
        speed = self.speed()
        if speed > 0:
            # The energy is below 0, so rounding its quotient down rounds the number of ticks up.
            spans.append(-(self.energy // speed))
        return min(spans)

    def ticks_until_ready(self):
        """How many ticks it takes if nothing but time happens to it, whoever else is ready meanwhile."""
        ahead = self.twin()
        went = 0
        while not ahead.is_ready():
            span = ahead.steady_ticks()
            ahead.gain(span)
            went += span
        return went

    def gain(self, ticks):
        """Let so many ticks go by at once; no effect may end before the last of them."""
        gained = self.speed() * ticks
        self.energy += gained
        self.gained += gained
        self.effects = [(more, lasts - ticks) for more, lasts in self.effects if lasts > ticks]

    def spend(self, energy):
        self.energy -= energy
        self.spent += energy

    def act(self, cost):
        self.spend(cost)
        self.acted += 1
