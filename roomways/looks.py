"""What can be told of a house by going through all standings that come."""

from roomways.alls import Going, all_of
from roomways.keepouts import refuse_no_entry
from roomways.together import chosen

WORDS_OF_CHANGE = ("begin", "enter", "leave")


def spots_of(choice):
    """Return the spots of all hands when the chosen ones are at their places with the word go, and all others rest."""
    places = {hand: place for hand, place in chosen(choice)}
    return tuple((places[hand], "go", 0) if hand in places else (0, "rest", 0) for hand in range(len(choice)))


def together_by_all(house, choice):
    """Tell whether the choice comes together."""
    wanted = spots_of(choice)
    return any([spots == wanted for spots, _ in all_of(house).standings])


def arcs_among(going, taken, barred):
    """Return for each standing the pairs of a hand and the standing behind a step of it, both taken, no word barred."""
    arcs = []
    for number, moves in enumerate(going.moves):
        row = []
        if taken[number]:
            row = [(hand, behind) for hand, word, behind in moves if word not in barred and taken[behind]]
        arcs.append(row)
    return arcs


def turned_round(rows):
    """Return for each number those the rows of which have it."""
    back = [[] for _ in rows]
    for number, row in enumerate(rows):
        for behind in row:
            back[behind].append(number)
    return back


def finished_from(rows, first, known):
    """Return first and all numbers that are not known and to which rows lead from it; they are known from then on.

    Each stands behind all those to which its row leads, unless these lead back to it.
    """
    finished = []
    turns = {first: 0}
    path = [first]
    known[first] = True
    while path:
        row = rows[path[-1]]
        turn = turns[path[-1]]
        if turn == len(row):
            finished.append(path.pop())
        else:
            turns[path[-1]] = turn + 1
            if not known[row[turn]]:
                known[row[turn]] = True
                turns[row[turn]] = 0
                path.append(row[turn])
    return finished


def groups_from(rows, firsts):
    """Return what finished_from tells for each of firsts that is not known by then."""
    known = [False] * len(rows)
    groups = []
    for first in firsts:
        if not known[first]:
            groups.append(finished_from(rows, first, known))
    return groups


def knots_of(rows):
    """Return the numbers in groups: from each of a group rows lead to each other one of it, and back."""
    finished = [number for group in groups_from(rows, list(range(len(rows)))) for number in group]
    return groups_from(turned_round(rows), list(reversed(finished)))


def knots_among(arcs):
    """Return the standings in groups: each of a group comes of each other one of it along arcs."""
    return knots_of([[behind for _, behind in row] for row in arcs])


def waits_somewhere(going, knot, hand):
    """Tell whether hand rests or is barred in some standing of knot."""
    for number in knot:
        spots, _ = going.standings[number]
        if spots[hand][1] == "rest" or hand not in [mover for mover, _, _ in going.moves[number]]:
            return True
    return False


def passes_nobody_over(going, knot, arcs):
    """Tell whether each hand makes a step within knot, or rests or is barred somewhere in it."""
    within = {number: True for number in knot}
    movers = {hand: True for number in knot for hand, behind in arcs[number] if behind in within}
    return all([hand in movers or waits_somewhere(going, knot, hand) for hand in range(len(going.house[1]))])


def stuck_by_all(house):
    """Tell whether house can get stuck."""
    going = all_of(house)
    taken = [any([word != "rest" for _, word, _ in spots]) for spots, _ in going.standings]
    arcs = arcs_among(going, taken, WORDS_OF_CHANGE)
    knots = [knot for knot in knots_among(arcs) if taken[knot[0]]]
    return any([passes_nobody_over(going, knot, arcs) for knot in knots])


def kept_by_all(house, hand, place):
    """Tell whether there is a keeping of hand at place."""
    refuse_no_entry(house, hand, place)
    going = all_of(house)
    taken = [spots[hand][0] == place and spots[hand][1] != "rest" for spots, _ in going.standings]
    arcs = arcs_among(going, taken, ())
    # Each step leads to another standing: so it takes two to go round.
    knots = [knot for knot in knots_among(arcs) if len(knot) > 1]
    return any([passes_nobody_over(going, knot, arcs) for knot in knots])


def longest_by_all(house, standing):
    """Return the greatest number of steps that can be made from standing, nobody beginning, None if there is none."""
    going = Going(house, standing, ("begin",))
    rows = [[behind for _, _, behind in moves] for moves in going.moves]
    most = {}
    for number in groups_from(rows, [0])[0]:
        if any([behind not in most for behind in rows[number]]):
            return None
        most[number] = max([most[behind] + 1 for behind in rows[number]], default=0)
    return most[0]
