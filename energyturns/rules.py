"""The calls: what each one refuses, does and answers."""

OUT_OF_RANGE = -1
NOBODY = -3
FULL = -4
SOMEBODY_READY = -5
NOT_ITS_TURN = -6

MOST_ACTORS = 16
MOST_EFFECTS = 8

# For each call the least and the greatest number of each of its arguments.
RANGES = {
    0: ((1, 1000), (-1000000, -1)),
    1: ((1, 400),),
    2: ((1, 1000000),),
    3: (),
    4: ((1, 400), (1, 1000000)),
    5: ((1, 400), (-5000, 5000), (1, 1000000)),
    6: ((1, 400),),
    7: ((1, 400), (1, 1000)),
}


def come(crowd, numbers):
    if len(crowd.actors) >= MOST_ACTORS:
        return [FULL]
    return [0, crowd.welcome(numbers[0], numbers[1])]


def tick(crowd, numbers):
    if crowd.turn() != 0:
        return [SOMEBODY_READY]
    went = crowd.pass_ticks(numbers[0])
    return [0, went, crowd.turn()]


def next_turn(crowd, numbers):
    if len(crowd.actors) == 0:
        return [NOBODY]
    went = crowd.pass_until_ready()
    return [0, went, crowd.turn()]


def leave(crowd, actor, numbers):
    crowd.dismiss(actor.number)
    return [0]


def act(crowd, actor, numbers):
    if crowd.turn() != actor.number:
        return [NOT_ITS_TURN]
    actor.act(numbers[1])
    return [0, actor.energy]


def effect(crowd, actor, numbers):
    if len(actor.effects) >= MOST_EFFECTS:
        return [FULL]
    actor.effects.append((numbers[1], numbers[2]))
    return [0, actor.speed()]


def dispel(crowd, actor, numbers):
    actor.effects = []
    return [0, actor.speed()]


def change_speed(crowd, actor, numbers):
    actor.base = numbers[1]
    return [0, actor.speed()]


CALLS_TO_ALL = {0: come, 2: tick, 3: next_turn}
CALLS_TO_ONE = {1: leave, 4: act, 5: effect, 6: dispel, 7: change_speed}


def count_numbers(place):
    return len(RANGES[place])


def are_within(numbers, ranges):
    for number, bounds in zip(numbers, ranges):
        if number < bounds[0] or number > bounds[1]:
            return False
    return True


def answer(crowd, place, numbers):
    """What one call answers, a refusal's number alone or 0 and what is told behind it."""
    if not are_within(numbers, RANGES[place]):
        return [OUT_OF_RANGE]
    if place in CALLS_TO_ALL:
        return CALLS_TO_ALL[place](crowd, numbers)
    # Each of the others names its actor first, and that there's none is the first of its further refusals.
    actor = crowd.actors.get(numbers[0])
    if actor is None:
        return [NOBODY]
    return CALLS_TO_ONE[place](crowd, actor, numbers)
