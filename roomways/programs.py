"""Programs: parts by which a hand enters rooms, chooses and repeats, and the ways that come of them."""

from roomways.bounds import MAX_DEEP, MAX_PARTS, MAX_WAYS
from roomways.errors import TooMany
from roomways.kinds import is_below, is_tuple_of

MIN_CHOICES = 2
MAX_CHOICES = 4


def is_choices(value):
    """Tell whether value is a tuple of as many tuples as an either has programs."""
    if not isinstance(value, tuple) or not MIN_CHOICES <= len(value) <= MAX_CHOICES:
        return False
    return all([isinstance(item, tuple) for item in value])


def is_part(many, value):
    """Tell whether value has the form of a part, its programs not being looked into."""
    if is_tuple_of(value, 3):
        return value[0] == "in" and is_below(value[1], many) and isinstance(value[2], tuple)
    if not is_tuple_of(value, 2):
        return False
    if value[0] == "again":
        return isinstance(value[1], tuple) and len(value[1]) > 0
    return value[0] == "either" and is_choices(value[1])


def programs_within(spot, part):
    """Return for each program of the part with this spot, in order, what the spots of its parts begin with, and it."""
    if part[0] == "either":
        return [(spot + (number,), program) for number, program in enumerate(part[1])]
    return [(spot, part[-1])]


def parts_within(spot, program):
    """Return the pairs of a spot and the part with it, for all parts of a program there, by their spots."""
    pairs = []
    for number, part in enumerate(program):
        here = spot + (number,)
        pairs.append((here, part))
        for within, inner in programs_within(here, part):
            pairs.extend(parts_within(within, inner))
    return pairs


def all_parts(program):
    """Return the pairs of a spot and the part with it, for all parts of program, by their spots."""
    return parts_within((), program)


def part_error(many, spot, part, rooms, deep):
    """Return what is wrong with a part within these rooms and so many parts, or with one within it, None if nothing."""
    if not is_part(many, part):
        return ("part", spot)
    if part[0] == "in" and part[1] in rooms:
        return ("room", spot)
    if deep > MAX_DEEP:
        return ("deep", spot)
    if part[0] == "in":
        rooms = rooms + (part[1],)
    for within, program in programs_within(spot, part):
        error = parts_error(many, within, program, rooms, deep + 1)
        if error is not None:
            return error
    return None


def parts_error(many, spot, program, rooms, deep):
    """Return what is wrong with the first wrong part of a program there, or with one within, None if nothing is."""
    for number, part in enumerate(program):
        error = part_error(many, spot + (number,), part, rooms, deep)
        if error is not None:
            return error
    return None


def program_error(many, value):
    """Return None if value is a program of so many rooms, otherwise what is wrong with it."""
    if not isinstance(value, tuple):
        return "form"
    error = parts_error(many, (), value, (), 0)
    if error is not None:
        return error
    parts = all_parts(value)
    if len(parts) > MAX_PARTS:
        return "many"
    if not any([part[0] == "in" for _, part in parts]):
        return "idle"
    return None


class Plan:
    """The rows of a program as paths: knots, numbered, from each of which one goes on by one step, or by none."""

    def __init__(self, program):
        # Each knot is a pair of a step, or None, and the numbers of the knots behind; the knot 0 is the end.
        self.knots = [(None, ())]
        self.first = self.knot_of(program, 0)
        self.least = self.least_steps()

    def add_knot(self, step, behind):
        """Add a knot, and return its number."""
        self.knots.append((step, behind))
        return len(self.knots) - 1

    def knot_of(self, program, behind):
        """Return the knot from which program is done up to the knot behind it."""
        for part in reversed(program):
            behind = self.knot_of_part(part, behind)
        return behind

    def knot_of_part(self, part, behind):
        """Return the knot from which a part is done up to the knot behind it."""
        if part[0] == "in":
            leaving = self.add_knot(("out", part[1]), (behind,))
            return self.add_knot(("in", part[1]), (self.knot_of(part[2], leaving),))
        if part[0] == "either":
            return self.add_knot(None, tuple([self.knot_of(program, behind) for program in part[1]]))
        knot = self.add_knot(None, ())
        self.knots[knot] = (None, (behind, self.knot_of(part[1], knot)))
        return knot

    def least_steps(self):
        """Return for each knot with how many steps at the least one comes from there to the end."""
        far = 2 * len(self.knots)
        least = [0] + [far] * (len(self.knots) - 1)
        for _ in self.knots:
            for knot, (step, behind) in enumerate(self.knots):
                if knot:
                    least[knot] = min([least[other] for other in behind]) + (0 if step is None else 1)
        return least

    def reached(self, knots):
        """Return all knots to which one comes from these without a step, ascending."""
        row = list(knots)
        known = {knot: True for knot in row}
        while row:
            step, behind = self.knots[row.pop()]
            for knot in behind:
                if step is None and knot not in known:
                    known[knot] = True
                    row.append(knot)
        return sorted(known)

    def steps_on(self, knots, left):
        """Return the next steps from these knots, if so many are enough to the end, each with the knots behind it."""
        found = {}
        for knot in knots:
            step, behind = self.knots[knot]
            if step is not None and self.least[knot] <= left:
                found.setdefault(step, []).extend(behind)
        return found

    def add_rows(self, row, knots, left, rows):
        """Add to rows all rows that begin with row, which leads to these knots, and have so many steps more at most."""
        knots = self.reached(knots)
        if row and 0 in knots:
            rows.append(row)
            if len(rows) > MAX_WAYS:
                raise TooMany(MAX_WAYS)
        found = self.steps_on(knots, left)
        for step in sorted(found):
            self.add_rows(row + (step,), found[step], left - 1, rows)


def ways_of(program, most):
    """Return all ways of program of at most so many steps, ascending."""
    plan = Plan(program)
    rows = []
    plan.add_rows((), (plan.first,), most, rows)
    return tuple(rows)
