"""What several tests need: calls in every manner, kinds of results, strange values, drawn houses and runs."""

import random
import unittest

from roomways.errors import WayError
from tests import retold

PARAMETERS = {
    "way_error": ("many", "value"),
    "held": ("way", "place"),
    "wish": ("way", "place"),
    "entries": ("way",),
    "door_error": ("hands", "value"),
    "house_error": ("value",),
    "users": ("house", "room"),
    "house_text": ("house",),
    "read_house": ("value",),
    "known_names": (),
    "known": ("name", "many"),
    "start": ("house",),
    "standing_error": ("house", "value"),
    "inside": ("house", "standing"),
    "flag": ("house", "standing", "room", "hand"),
    "token": ("house", "standing", "room", "one", "other"),
    "next_step": ("house", "standing", "hand"),
    "stepped": ("house", "standing", "hand"),
    "movers": ("house", "standing"),
    "barred": ("house", "standing"),
    "standing_text": ("house", "standing"),
    "read_standing": ("house", "value"),
    "behind": ("house", "standing", "run"),
    "words": ("house", "standing", "run"),
    "entered": ("house", "standing", "run"),
    "first_double": ("house", "standing", "run"),
    "run_text": ("run",),
    "read_run": ("value",),
    "apart": ("house", "choice"),
    "arcs": ("house", "choice"),
    "comes_together": ("house", "choice"),
    "order_of": ("house", "choice"),
    "order_error": ("house", "choice", "value"),
    "bar": ("house", "choice"),
    "bar_error": ("house", "choice", "value"),
    "meeting": ("house", "choice"),
    "rings_to_be": ("house",),
    "hold_rings": ("house",),
    "bow_rings": ("house", "room"),
    "wait_rings": ("house", "room"),
    "events": ("house", "room", "ring"),
    "order_of_time": ("house", "room", "ring"),
    "time_error": ("house", "room", "ring", "value"),
    "doors_to_be": ("house", "room"),
    "door_rings": ("house", "room"),
    "stuck_ring": ("house",),
    "is_never_stuck": ("house",),
    "stall": ("house",),
    "stall_error": ("house", "value"),
    "never": ("house",),
    "never_error": ("house", "value"),
    "tries": ("house", "room", "hand"),
    "home_bound": ("house",),
    "home_run": ("house", "standing", "picks"),
    "free_doors": ("house",),
    "chain": ("house", "hand", "place"),
    "chain_error": ("house", "hand", "place", "value"),
    "can_be_kept_out": ("house", "hand"),
    "keeping": ("house", "hand", "place"),
    "keeping_error": ("house", "hand", "place", "value"),
    "gated": ("house", "hands"),
    "fewest_gate": ("house",),
    "gate_paper": ("house",),
    "gate_error": ("house", "value"),
    "numbers": ("house",),
    "numbers_error": ("house", "value"),
    "room_round": ("house",),
    "round_error": ("house", "value"),
    "program_error": ("many", "value"),
    "ways_of": ("program", "most"),
    "program_text": ("program",),
    "read_program": ("value",),
    "spots": ("program",),
    "held_at": ("program", "spot"),
    "histories": ("program", "spot"),
    "way_by": ("program", "spot", "history"),
    "apart_by": ("programs", "choice"),
    "stuck_ways": ("many", "programs"),
    "supply_ring": ("many", "kinds", "limits"),
    "supply_ring_error": ("many", "kinds", "limits", "value"),
    "fewest_hands": ("many", "kinds", "limits"),
    "supply_house": ("many", "kinds", "hands"),
    "standings_of": ("house",),
    "nearest": ("house", "standing"),
    "together_by_all": ("house", "choice"),
    "stuck_by_all": ("house",),
    "kept_by_all": ("house", "hand", "place"),
    "longest_by_all": ("house", "standing"),
    "log_text": ("log",),
    "read_log": ("value",),
    "office_behind": ("house", "value"),
    "verdict": ("house",),
    "verdict_error": ("house", "value"),
}


def shape(value):
    """Tell value with the kinds of all that is within: True is unlike 1, a list unlike a tuple."""
    kind = type(value)
    if kind in (tuple, list):
        return (kind, [shape(item) for item in value])
    if kind is dict:
        return (kind, [(shape(key), shape(item)) for key, item in value.items()])
    return (kind, value)


def is_own(value):
    """Tell whether value is of Python's own tuples, integers, strings, bools and None, also within."""
    if type(value) is tuple:
        return all(is_own(item) for item in value)
    return value is None or type(value) in (int, str, bool)


def rebuilt(value):
    """Return an equal value that is another object, also within."""
    if type(value) in (tuple, list):
        return type(value)([rebuilt(item) for item in value])
    if type(value) is dict:
        return {rebuilt(key): rebuilt(item) for key, item in value.items()}
    if type(value) is str:
        return "".join(list(value))
    return value


def outcome(function, *args, **named):
    """Return what a call tells, or which error it raises with which fields, each with its kinds."""
    try:
        result = function(*args, **named)
    except WayError as error:
        return ("raises", type(error), shape(vars(error)))
    if not is_own(result):
        return ("not of Python's own kinds", repr(result))
    return ("tells", shape(result))


class Case(unittest.TestCase):
    """A test that makes each call by place, by names and with equal arguments."""

    def ask(self, function, *args):
        """Return the outcome of a call; it has to be the same in every manner, and to change nothing."""
        names = PARAMETERS[function.__name__]
        ahead = shape(args)
        first = outcome(function, *args)
        named = outcome(function, **dict(reversed(list(zip(names, args)))))
        again = outcome(function, *rebuilt(args))
        self.assertEqual(len(names), len(args))
        self.assertEqual(first, named, (function.__name__, args))
        self.assertEqual(first, again, (function.__name__, args))
        self.assertEqual(ahead, shape(args), function.__name__)
        return first

    def tells(self, wanted, function, *args):
        """The call has to tell what is wanted, of the same kinds."""
        self.assertEqual(("tells", shape(wanted)), self.ask(function, *args), (function.__name__, args))

    def answer(self, function, *args):
        """The call has to tell something; return this."""
        self.assertEqual("tells", self.ask(function, *args)[0], (function.__name__, args))
        return function(*args)

    def raises(self, error, function, *args):
        """The call has to raise such an error, with these fields."""
        wanted = ("raises", type(error), shape(vars(error)))
        self.assertEqual(wanted, self.ask(function, *args), (function.__name__, args))

    def agrees(self, told, function, *args):
        """The call has to tell, or to raise, what told tells or raises by the same arguments."""
        self.assertEqual(outcome(told, *args), self.ask(function, *args), (function.__name__, args))


def nested_in(kind, depth):
    """Return an empty one of this kind, nested so deep."""
    value = kind()
    for _ in range(depth):
        value = kind([value])
    return value


STRANGE = (
    None, True, False, 0, 1, 2, -1, 5, 6, 24, 10 ** 399, -(10 ** 399),
    "", "in", "out", "-", "stand", "even", "plain", "rest", "go", "0", "\n", "way +0 -0", "9" * 20000, "~" * 20000,
    (), [], {}, (0,), [0], (1,), (0, 1), [0, 1], ("in", 0), ["in", 0], ("in", True), ("in", False), {"in": 0},
    {(0, ("a",)): [None]}, (None,), [None], ((), ()), ([], []), ((), (), ()), {0: (), 1: ()},
    ("-",), ["-"], (("-",),), (0, "rest", 0), [0, "rest", 0], (False, "rest", False),
    nested_in(tuple, 39), nested_in(list, 39), (None,) * 9000, (0,) * 8999, [("in", 0), ("out", 0)],
)


def parts(value, at=()):
    """Return the paths to value and to all that is within it."""
    paths = [at]
    if type(value) is tuple:
        for place, item in enumerate(value):
            paths.extend(parts(item, at + (place,)))
    return paths


def part(value, path):
    """Return what stands at this path within value."""
    for place in path:
        value = value[place]
    return value


def changed(value, path, new):
    """Return value with something else at this path."""
    if not path:
        return new
    place = path[0]
    return value[:place] + (changed(value[place], path[1:], new),) + value[place + 1:]


def variants(value, path):
    """Return values with another part at this path: of other kinds, one item more, less, twice, turned round."""
    here = part(value, path)
    news = list(STRANGE)
    if type(here) is tuple:
        news.extend([list(here), here + (None,), here[:-1], here[1:], here[::-1], here + here[-1:]])
        news.append(dict(enumerate(here)))
    if type(here) is int:
        news.extend([bool(here), here + 1, here - 1, str(here), (here,)])
    if type(here) is str:
        news.extend([here + " ", here[:-1], here.upper(), (here,), list(here), tuple(here)])
    return [changed(value, path, new) for new in news]


def drawn_way(draw, many, most=24):
    """Return a drawn way through so many rooms."""
    length = 2 * draw.randint(1, most // 2)
    way, rooms = [], []
    while len(way) < length:
        free = [room for room in range(many) if room not in rooms]
        enters = not rooms or (free and draw.random() < 0.55)
        if enters and len(way) + len(rooms) + 2 <= length:
            rooms.append(draw.choice(free))
            way.append(("in", rooms[-1]))
        else:
            way.append(("out", rooms.pop()))
    return tuple(way)


def drawn_order(draw, hands, hand):
    """Return a drawn order of all hands but this one."""
    others = [other for other in range(hands) if other != hand]
    draw.shuffle(others)
    return tuple(others)


def drawn_door(draw, hands):
    """Return a drawn door."""
    rows = [["-"] * hands for _ in range(hands)]
    for one in range(hands):
        for other in range(one + 1, hands):
            rows[one][other] = rows[other][one] = "even"
            if draw.random() < 0.6:
                rows[one][other], rows[other][one] = draw.choice(("stand", "bow")), draw.choice(("stand", "bow"))
    return (tuple(tuple(row) for row in rows), tuple(drawn_order(draw, hands, hand) for hand in range(hands)))


def drawn_house(draw, hands=None, many=None, most=24, doors=0.6):
    """Return a drawn house."""
    hands = hands or draw.randint(1, 5)
    many = many or draw.randint(1, 6)
    rooms = tuple(drawn_door(draw, hands) if draw.random() < doors else None for _ in range(many))
    return (rooms, tuple(drawn_way(draw, many, most) for _ in range(hands)))


def drawn_houses(seed, many, **told):
    """Return so many drawn houses, of every number of hands and of rooms."""
    draw = random.Random(seed)
    return [drawn_house(draw, hands=k % 5 + 1, many=k % 6 + 1, **told) for k in range(many)]


def stay(room, through, times):
    """Return a way that enters room, goes so often through another one, and leaves room."""
    return (("in", room),) + (("in", through), ("out", through)) * times + (("out", room),)


def around(room, way):
    """Return the way, with room entered first and left last."""
    return (("in", room),) + way + (("out", room),)


def door_by(rows):
    """Return the door of these rows of signs, all orders of which ascend."""
    words = {"-": "-", "s": "stand", "b": "bow", "e": "even"}
    hands = range(len(rows))
    return (tuple(tuple(words[sign] for sign in row) for row in rows),
            tuple(tuple(other for other in hands if other != hand) for hand in hands))


def holds_house(many, rooms=2, more=False):
    """Return a house of five hands with ten times so many rings-to-be, one more if told; room 1 is held by one alone."""
    times = [many // 4 + (k < many % 4) for k in range(4)]
    ways = [stay(0, 1, k) for k in times] + [stay(1, 0, 10)]
    if more:
        ways[2] += (("in", 2), ("in", 3), ("out", 3), ("out", 2))
        ways[3] += (("in", 3), ("in", 2), ("out", 2), ("out", 3))
    return ((None,) * rooms, tuple(ways))


def door_house(one, other, third, more=False):
    """Return a house of one door with twice the product of these many door rings-to-be, one more if told."""
    table = ("-sbss", "b-sss", "sb-ss", "bbb-b", "bbbb-") if more else ("-sbss", "b-sss", "sb-ss", "bbb-s", "bbbb-")
    short = (("in", 0), ("out", 0))
    return ((door_by(table),), (short * one, short * other, short * third, short, short))


def staying_way(draw, many, most=12):
    """Return a drawn way by which a hand holds one room while it goes through others, and then another one."""
    way, left = [], draw.randint(2, most)
    while left > 1:
        stay, through = draw.randrange(many), draw.randint(1, min(5, left - 1))
        others = [draw.choice([room for room in range(many) if room != stay]) for _ in range(through)]
        way += [("in", stay)] + [(word, room) for room in others for word in ("in", "out")] + [("out", stay)]
        left -= through + 1
    return tuple(way)


def staying_house(draw, hands, many, most=12, doors=0.5):
    """Return a drawn house with such ways."""
    rooms = tuple(drawn_door(draw, hands) if draw.random() < doors else None for _ in range(many))
    return (rooms, tuple(staying_way(draw, many, most) for _ in range(hands)))


def small_house(draw, hands=None, many=None, steps=(2, 4, 4, 6, 8), doors=0.6):
    """Return a drawn house with short ways, most of the doors of which do not get stuck by themselves."""
    hands = hands or draw.randint(1, 3)
    many = many or draw.randint(1, 4)
    rooms = []
    for _ in range(many):
        room = drawn_door(draw, hands) if draw.random() < doors else None
        if room is not None and draw.random() < 0.7:
            room = (ranked_table(draw, hands, draw.choice((0, 0.3, 0.6))), room[1])
        rooms.append(room)
    return (tuple(rooms), tuple(drawn_way(draw, many, draw.choice(steps)) for _ in range(hands)))


def ranked_table(draw, hands, evens):
    """Return a drawn table by which some are even, and of any two others the lower one in some row bows."""
    row = list(range(hands))
    draw.shuffle(row)
    table = [["-"] * hands for _ in range(hands)]
    for one in range(hands):
        for other in range(one):
            words = ("stand", "bow") if row.index(one) < row.index(other) else ("bow", "stand")
            table[one][other], table[other][one] = ("even", "even") if draw.random() < evens else words
    return tuple(tuple(line) for line in table)


def drawn_choice(draw, house, chosen=0.7):
    """Return a drawn choice of house."""
    return tuple(draw.randrange(len(way)) if draw.random() < chosen else None for way in house[1])


def renamed(house, names):
    """Return house with its rooms called otherwise: the room r is names[r] then."""
    rooms = tuple(house[0][names.index(room)] for room in range(len(names)))
    return (rooms, tuple(tuple((word, names[room]) for word, room in way) for way in house[1]))


def drawn_names(draw, house):
    """Return other names for the rooms of house."""
    names = list(range(len(house[0])))
    draw.shuffle(names)
    return names


def without_hand(house, hand):
    """Return house with this hand left out, the greater ones called one less."""
    rooms = []
    for room in house[0]:
        if room is not None:
            table = [line[:hand] + line[hand + 1:] for k, line in enumerate(room[0]) if k != hand]
            orders = [order for k, order in enumerate(room[1]) if k != hand]
            room = (tuple(table), tuple(tuple(j - (j > hand) for j in order if j != hand) for order in orders))
        rooms.append(room)
    return (tuple(rooms), house[1][:hand] + house[1][hand + 1:])


def drawn_standing(draw, house, entering=0.7):
    """Return a drawn standing of house, which need not come; many of its hands are at entries of doors."""
    spots = []
    for hand in range(len(house[1])):
        known = retold.all_spots(house, hand)
        at_entries = [spot for spot in known if spot[1] not in ("rest", "go")]
        spots.append(draw.choice(at_entries if at_entries and draw.random() < entering else known))
    return (tuple(spots), tuple((r, i, j, draw.choice((i, j))) for r, i, j in retold.pairs_even(house)))


def drawn_run(draw, house, standing, length):
    """Return a drawn run of at most so many hands, none of which is barred when its turn comes."""
    run, hand = [], 0
    for _ in range(length):
        hands = retold.movers(house, standing)
        if not hands:
            break
        # A hand that makes several steps at once gets farther into the others' ways.
        if hand not in hands or draw.random() < 0.5:
            hand = draw.choice(hands)
        run.append(hand)
        standing = retold.stepped(house, standing, hand)
    return tuple(run)
