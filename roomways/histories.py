"""Histories: what has been entered since at the entries of a program, and whether hands by programs get stuck."""

from roomways.errors import Unfit
from roomways.holds import mask_of
from roomways.kinds import is_same
from roomways.programs import all_parts
from roomways.stuckness import least_ring, stands_among
from roomways.together import put_in_layers


def spots(program):
    """Return the spots of all in parts of program, ascending."""
    return tuple(spot for spot, part in all_parts(program) if part[0] == "in")


def refuse_no_spot(program, spot):
    """Raise Unfit unless spot is the spot of an in part of program."""
    if not any([is_same(spot, known) for known in spots(program)]):
        raise Unfit()


def held_at(program, spot):
    """Return the rooms of the in parts within which the part with this spot lies, the outer one first."""
    refuse_no_spot(program, spot)
    parts = [(other, part) for other, part in all_parts(program) if other != spot and part[0] == "in"]
    return tuple(part[1] for other, part in parts if other == spot[:len(other)])


def is_within(masks, others):
    """Tell whether each of these masks lies within the other one at its place."""
    return all([mask | other == other for mask, other in zip(masks, others)])


def least_of(tales):
    """Return those of these tales than the masks of which there are no less ones, one for each least masks."""
    least = []
    for tale in tales:
        if not any([is_within(other[0], tale[0]) for other in least]):
            least = [other for other in least if not is_within(tale[0], other[0])] + [tale]
    return least


def behind_entering(tales, room):
    """Return these tales with the step that enters room behind each."""
    return [(tuple(mask | 1 << room for mask in masks), steps + (("in", room),)) for masks, steps in tales]


def behind_part(tales, part):
    """Return the least tales that come of these by a part."""
    if part[0] == "again":
        # What is done again adds rooms, and takes away none.
        return tales
    if part[0] == "either":
        return least_of([tale for program in part[1] for tale in behind_program(tales, program)])
    _, room, program = part
    inner = behind_program(behind_entering(tales, room), program)
    return [(masks, steps + (("out", room),)) for masks, steps in inner]


def behind_program(tales, program):
    """Return the least tales that come of these by program.

    A tale is a pair: for each held room the mask of the rooms entered since, and the steps of a row up to there.
    """
    for part in program:
        tales = behind_part(tales, part)
    return tales


def led_on(tales, program, spot):
    """Return the tales that come of these by program up to an entry of spot, the least ones among them."""
    part = program[spot[0]]
    tales = behind_program(tales, program[:spot[0]])
    if len(spot) == 1:
        return tales
    if part[0] == "either":
        return led_on(tales, part[1][spot[1]], spot[2:])
    if part[0] == "in":
        tales = [(masks + (0,), steps) for masks, steps in behind_entering(tales, part[1])]
    return led_on(tales, part[-1], spot[1:])


def steps_of(program):
    """Return the steps of a row of program in which each in part is done once at most."""
    return behind_program([((), ())], program)[0][1]


def steps_from(program, spot):
    """Return the steps of a row of program from an entry of spot on, each in part done once at most."""
    part = program[spot[0]]
    if len(spot) == 1:
        steps = steps_of((part,))
    elif part[0] == "either":
        steps = steps_from(part[1][spot[1]], spot[2:])
    else:
        steps = steps_from(part[-1], spot[1:])
        if part[0] == "in":
            steps = steps + (("out", part[1]),)
    return steps + steps_of(program[spot[0] + 1:])


def rooms_of(mask):
    """Return the rooms that are the bits of mask, ascending."""
    return tuple(room for room in range(mask.bit_length()) if mask >> room & 1)


def told_histories(program, spot):
    """Return for each least history of spot, ascending, the pair of it and the steps up to an entry that has it."""
    tales = least_of(led_on([((), ())], program, spot))
    return sorted([(tuple([rooms_of(mask) for mask in masks]), steps) for masks, steps in tales])


def histories(program, spot):
    """Return the least histories of spot, ascending."""
    refuse_no_spot(program, spot)
    return tuple(history for history, _ in told_histories(program, spot))


def way_by(program, spot, history):
    """Return a way of program and the place of an entry of spot in it of which history is the history."""
    refuse_no_spot(program, spot)
    for known, steps in told_histories(program, spot):
        if is_same(history, known):
            return (steps + steps_from(program, spot), len(steps))
    raise Unfit()


def kept_by(programs, choice):
    """Return the rooms that are held at the spots of choice, those of each spot behind one another."""
    rooms = []
    for program, spot in zip(programs, choice):
        if spot is not None:
            rooms.extend(held_at(program, spot))
    return rooms


def pairs_by(rooms, masks):
    """Return the pairs of each of these rooms and each room of the mask at its place."""
    return [(room, other) for room, mask in zip(rooms, masks) for other in rooms_of(mask)]


def rows_by(program, spot, kept):
    """Return pairs of a history of spot and what it adds to the graph, kept being all rooms of the graph.

    Of two histories that add the same, or one of which adds more, one is enough.
    """
    if spot is None:
        return [(None, [])]
    mask = mask_of(kept)
    tales = [(tuple(mask_of(since) & mask for since in known), known) for known in histories(program, spot)]
    rooms = held_at(program, spot)
    return [(known, pairs_by(rooms, masks)) for masks, known in least_of(tales)]


def without_ring(rows, pairs, kept):
    """Return a history of each of these rows such that their parts and these pairs have no ring, None if none."""
    if not rows:
        return ()
    for history, more in rows[0]:
        _, left = put_in_layers(pairs + more, kept)
        if not left:
            told = without_ring(rows[1:], pairs + more, kept)
            if told is not None:
                return (history,) + told
    return None


def apart_by(programs, choice):
    """Return least histories of the spots of choice the graph of which has no ring, None if there are none."""
    kept = kept_by(programs, choice)
    if len(set(kept)) < len(kept):
        return None
    rows = [rows_by(program, spot, kept) for program, spot in zip(programs, choice)]
    return without_ring(rows, [], kept)


def stands_by(hand, program):
    """Return the stands of hand at the entries of program."""
    rooms = {spot: part[1] for spot, part in all_parts(program) if part[0] == "in"}
    return stands_among(hand, [(spot, room, mask_of(held_at(program, spot))) for spot, room in rooms.items()])


def stuck_ways(many, programs):
    """Return ways of the programs by which a house of so many plain rooms can get stuck, None if there are none."""
    ring = least_ring([stands_by(hand, program) for hand, program in enumerate(programs)])
    if ring is None:
        return None
    # Whatever the histories: where places are apart there is a ring of holds, of the same hands at the latest.
    led = {hand: spot for hand, spot, _, _ in ring}
    ways = []
    for hand, program in enumerate(programs):
        spot = led.get(hand, spots(program)[0])
        ways.append(way_by(program, spot, histories(program, spot)[0])[0])
    return tuple(ways)
