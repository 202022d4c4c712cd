"""Runs: hands that make one step each, one behind another."""

from roomways.errors import BadRun
from roomways.standings import inside
from roomways.steps import next_step, standing_behind
from roomways.ways import wish


def trace(house, standing, run):
    """Return the words of the steps of run, and the standings behind 0, 1, .. of them."""
    told = []
    standings = [standing]
    for place, hand in enumerate(run):
        step = next_step(house, standings[-1], hand)
        if step is None:
            raise BadRun(place)
        told.append(step)
        standings.append(standing_behind(house, standings[-1], hand, step))
    return told, standings


def behind(house, standing, run):
    """Return the standing behind the run that begins at standing."""
    _, standings = trace(house, standing, run)
    return standings[-1]


def words(house, standing, run):
    """Return the words of the steps of the run that begins at standing."""
    told, _ = trace(house, standing, run)
    return tuple(told)


def entered(house, standing, run):
    """Return the pairs of a hand and the room that it entered, for the steps of the run, in order."""
    told, standings = trace(house, standing, run)
    pairs = []
    for step, hand, (spots, _) in zip(told, run, standings):
        if step == "enter":
            pairs.append((hand, wish(house[1][hand], spots[hand][0])))
    return tuple(pairs)


def first_double(house, standing, run):
    """Return the least number of steps behind which a room is held by two, None if there is none in the run."""
    _, standings = trace(house, standing, run)
    for many, reached in enumerate(standings):
        if max([len(hands) for hands in inside(house, reached)]) > 1:
            return many
    return None
