"""All who are there, and the time that goes by for them."""

from energyturns.actor import Actor


class Crowd:
    """The actors stand under their numbers, in the order in which they came."""

    def __init__(self):
        self.ticks = 0
        self.came = 0
        self.actors = {}

    def twin(self):
        """A crowd like this that shares nothing with it, so that what is to come can be tried out."""
        other = Crowd()
        other.ticks = self.ticks
        other.came = self.came
        other.actors = dict([(number, actor.twin()) for number, actor in self.actors.items()])
        return other

    def welcome(self, speed, energy):
        # Counting all who ever came keeps a number from being given again.
        self.came += 1
        self.actors[self.came] = Actor(self.came, speed, energy)
        return self.came

    def dismiss(self, number):
        self.actors.pop(number)

    def ready_in_order(self):
        ready = [actor for actor in self.actors.values() if actor.is_ready()]
        return sorted(ready, key=lambda actor: (-actor.energy, actor.number))

    def turn(self):
        """The number of the one whose turn it is, 0 if nobody is ready."""
        ready = self.ready_in_order()
        return ready[0].number if len(ready) > 0 else 0

    def steady_spans(self):
        return [actor.steady_ticks() for actor in self.actors.values()]

    def go_by(self, ticks):
        for actor in self.actors.values():
            actor.gain(ticks)
        self.ticks += ticks

    def pass_ticks(self, most):
        """Ticks go by until somebody is ready, so many at most; tells how many did."""
        # A wait may be a million ticks long: all ticks in which no speed changes go by in one step.
        went = 0
        while went < most and self.turn() == 0:
            span = min([most - went] + self.steady_spans())
            self.go_by(span)
            went += span
        return went

    def pass_until_ready(self):
        """Ticks go by until somebody is ready; tells how many did. Somebody must be there."""
        went = 0
        while self.turn() == 0:
            span = min(self.steady_spans())
            self.go_by(span)
            went += span
        return went

    def turns_to_come(self, many, costs):
        """So many turns, each a number and the ticks until then; the costs stand under the actors' numbers.

        Somebody must be there.
        """
        ahead = self.twin()
        turns = []
        went = 0
        while len(turns) < many:
            went += ahead.pass_until_ready()
            number = ahead.turn()
            ahead.actors[number].act(costs[number])
            turns.append((number, went))
        return turns
