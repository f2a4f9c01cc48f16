"""The calls: what each one refuses, does and answers."""

OUT_OF_RANGE = -1
NOBODY = -3
FULL = -4
SOMEBODY_READY = -5
NOT_ITS_TURN = -6
WRONG_COUNT = -7

MOST_ACTORS = 16
MOST_EFFECTS = 8

# For each call the least and the greatest number of each of its arguments.
RANGES = {
    0: ((1, 1000), (-1000000, -1)),
    1: ((1, 400),),
    2: ((1, 1000000),),
    3: (),
    4: ((1, 400), (1, 1000000)),
    5: ((1, 400), (-5000, 5000), (1, 1000000)),
    6: ((1, 400),),
    7: ((1, 400), (1, 1000)),
    8: ((1, 400), (1, 1000000)),
    9: (),
    10: ((1, 400),),
    11: ((1, 400),),
    12: ((1, 100),),
    13: ((1, 400),),
    14: (),
}

# The one call that has a second row, of costs.
TURNS = 12
COST_RANGE = (1, 1000000)


def come(crowd, numbers):
    if len(crowd.actors) >= MOST_ACTORS:
        return [FULL]
    return [0, crowd.welcome(numbers[0], numbers[1])]


def tick(crowd, numbers):
    if crowd.turn() != 0:
        return [SOMEBODY_READY]
    went = crowd.pass_ticks(numbers[0])
    return [0, went, crowd.turn()]


def next_turn(crowd, numbers):
    if len(crowd.actors) == 0:
        return [NOBODY]
    went = crowd.pass_until_ready()
    return [0, went, crowd.turn()]


def leave(crowd, actor, numbers):
    crowd.dismiss(actor.number)
    return [0]


def act(crowd, actor, numbers):
    if crowd.turn() != actor.number:
        return [NOT_ITS_TURN]
    actor.act(numbers[1])
    return [0, actor.energy]


def effect(crowd, actor, numbers):
    if len(actor.effects) >= MOST_EFFECTS:
        return [FULL]
    actor.effects.append((numbers[1], numbers[2]))
    return [0, actor.speed()]


def dispel(crowd, actor, numbers):
    actor.effects = []
    return [0, actor.speed()]


def change_speed(crowd, actor, numbers):
    actor.base = numbers[1]
    return [0, actor.speed()]


def push(crowd, actor, numbers):
    actor.spend(numbers[1])
    return [0, actor.energy]


def queue(crowd, numbers):
    return [0] + [actor.number for actor in crowd.ready_in_order()]


def tell_time(crowd, numbers):
    return [0, crowd.ticks, crowd.came, len(crowd.actors), crowd.turn()]


def describe(crowd, actor, numbers):
    told = [0, actor.energy, actor.base, actor.speed()]
    for more, lasts in actor.effects:
        told.extend([more, lasts])
    return told


def when_ready(crowd, actor, numbers):
    return [0, actor.ticks_until_ready()]


def tell_book(crowd, actor, numbers):
    return [0, actor.acted, actor.gained, actor.spent]


def foretell(crowd, many, costs):
    """The turns to come; the costs go with the actors in the order of their numbers."""
    if len(costs) != len(crowd.actors):
        return [WRONG_COUNT]
    told = [0]
    # Without anybody no turn would ever come.
    if len(crowd.actors) > 0:
        # The actors stand in the order in which they came, which is that of their numbers.
        for number, ticks in crowd.turns_to_come(many, dict(zip(crowd.actors, costs))):
            told.extend([number, ticks])
    return told


CALLS_TO_ALL = {0: come, 2: tick, 3: next_turn, 9: queue, 14: tell_time}
CALLS_TO_ONE = {
    1: leave, 4: act, 5: effect, 6: dispel, 7: change_speed, 8: push, 10: describe, 11: when_ready, 13: tell_book,
}


def count_numbers(place):
    """How many numbers the call has behind its place, without its second row."""
    return len(RANGES[place])


def has_row(place):
    return place == TURNS


def is_within(number, bounds):
    return bounds[0] <= number and number <= bounds[1]


def are_within(numbers, ranges):
    return all([is_within(number, bounds) for number, bounds in zip(numbers, ranges)])


def are_costs(numbers):
    return all([is_within(number, COST_RANGE) for number in numbers])


def answer(crowd, place, numbers, costs):
    """What one call answers, a refusal's number alone or 0 and what is told behind it.

    The costs are the call's second row, empty for a call that has none.
    """
    if not are_within(numbers, RANGES[place]) or not are_costs(costs):
        return [OUT_OF_RANGE]
    if place == TURNS:
        return foretell(crowd, numbers[0], costs)
    if place in CALLS_TO_ALL:
        return CALLS_TO_ALL[place](crowd, numbers)
    # Each of the others names its actor first, and that there's none is the first of its further refusals.
    actor = crowd.actors.get(numbers[0])
    if actor is None:
        return [NOBODY]
    return CALLS_TO_ONE[place](crowd, actor, numbers)
