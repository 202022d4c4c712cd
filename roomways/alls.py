"""All standings of a house that come, gone through one by one."""

from roomways.bounds import MAX_COME
from roomways.errors import TooMany
from roomways.standings import start
from roomways.steps import next_step, standing_behind


def moves_from(house, standing):
    """Return for each hand that is not barred, ascending, it, the word of its next step, and the standing behind it."""
    moves = []
    for hand in range(len(house[1])):
        step = next_step(house, standing, hand)
        if step is not None:
            moves.append((hand, step, standing_behind(house, standing, hand, step)))
    return moves


class Going:
    """All standings that come of one by steps of other words than those barred, numbered as they are found."""

    def __init__(self, house, standing, barred):
        self.house = house
        self.standings = [standing]
        # For each of them: the number of the one ahead from which it was found first, and the hand that made the step.
        self.found = [(None, None)]
        self.moves = []
        self.numbers = {standing: 0}
        # The list grows while it is gone through.
        while len(self.moves) < len(self.standings):
            self.go_on(barred)

    def go_on(self, barred):
        """Go through the steps from the first standing whose steps were not gone through."""
        number = len(self.moves)
        row = []
        for hand, step, standing in moves_from(self.house, self.standings[number]):
            if step not in barred:
                row.append((hand, step, self.number_of(standing, number, hand)))
        self.moves.append(row)

    def number_of(self, standing, ahead, hand):
        """Return the number of a standing that comes of the one with the number ahead by a step of hand."""
        if standing not in self.numbers:
            if len(self.standings) == MAX_COME:
                raise TooMany(MAX_COME)
            self.numbers[standing] = len(self.standings)
            self.standings.append(standing)
            self.found.append((ahead, hand))
        return self.numbers[standing]

    def run_to(self, number):
        """Return a shortest run to the standing with this number."""
        run = []
        while number:
            number, hand = self.found[number]
            run.append(hand)
        return tuple(reversed(run))


def all_of(house):
    """Return the going through all standings of house that come."""
    return Going(house, start(house), ())


def standings_of(house):
    """Return all standings of house that come, ascending."""
    return tuple(sorted(all_of(house).standings))


def nearest(house, standing):
    """Return a shortest run from the start of house to standing, None if it does not come."""
    going = all_of(house)
    number = going.numbers.get(standing)
    if number is None:
        return None
    return going.run_to(number)
