"""The interface: a list of calls in, a list of their answers out."""

from energyturns.crowd import Crowd
from energyturns.rules import answer, count_numbers


def answers(calls):
    """Ask the calls of a new dungeon, one behind another; each answer stands behind how many numbers it has."""
    crowd = Crowd()
    answered = []
    start = 0
    while start < len(calls):
        place = calls[start]
        end = start + 1 + count_numbers(place)
        told = answer(crowd, place, calls[start + 1:end])
        answered.append(len(told))
        answered.extend(told)
        start = end
    return answered
