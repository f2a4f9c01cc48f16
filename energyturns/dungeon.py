"""The interface: a list of calls in, a list of their answers out."""

from energyturns.crowd import Crowd
from energyturns.rules import answer, count_numbers, has_row


def read_row(calls, start):
    """The row that begins there: how many numbers it has stands before them."""
    return calls[start + 1:start + 1 + calls[start]]


def answers(calls):
    """Ask the calls of a new dungeon, one behind another; each answer stands behind how many numbers it has."""
    crowd = Crowd()
    answered = []
    start = 0
    while start < len(calls):
        place = calls[start]
        end = start + 1 + count_numbers(place)
        numbers = calls[start + 1:end]
        costs = []
        if has_row(place):
            costs = read_row(calls, end)
            end += 1 + len(costs)
        told = answer(crowd, place, numbers, costs)
        answered.append(len(told))
        answered.extend(told)
        start = end
    return answered
