"""What several tests need: calls in every manner, kinds of results, strange values, drawn houses and runs."""

import random
import unittest

from roomways.errors import WayError
from tests import retold

PARAMETERS = {
    "way_error": ("many", "value"),
    "held": ("way", "place"),
    "wish": ("way", "place"),
    "entries": ("way",),
    "door_error": ("hands", "value"),
    "house_error": ("value",),
    "users": ("house", "room"),
    "house_text": ("house",),
    "read_house": ("value",),
    "known_names": (),
    "known": ("name", "many"),
    "start": ("house",),
    "standing_error": ("house", "value"),
    "inside": ("house", "standing"),
    "flag": ("house", "standing", "room", "hand"),
    "token": ("house", "standing", "room", "one", "other"),
    "next_step": ("house", "standing", "hand"),
    "stepped": ("house", "standing", "hand"),
    "movers": ("house", "standing"),
    "barred": ("house", "standing"),
    "standing_text": ("house", "standing"),
    "read_standing": ("house", "value"),
    "behind": ("house", "standing", "run"),
    "words": ("house", "standing", "run"),
    "entered": ("house", "standing", "run"),
    "first_double": ("house", "standing", "run"),
}


def shape(value):
    """Tell value with the kinds of all that is within: True is unlike 1, a list unlike a tuple."""
    kind = type(value)
    if kind in (tuple, list):
        return (kind, [shape(item) for item in value])
    if kind is dict:
        return (kind, [(shape(key), shape(item)) for key, item in value.items()])
    return (kind, value)


def is_own(value):
    """Tell whether value is of Python's own tuples, integers, strings, bools and None, also within."""
    if type(value) is tuple:
        return all(is_own(item) for item in value)
    return value is None or type(value) in (int, str, bool)


def rebuilt(value):
    """Return an equal value that is another object, also within."""
    if type(value) in (tuple, list):
        return type(value)([rebuilt(item) for item in value])
    if type(value) is dict:
        return {rebuilt(key): rebuilt(item) for key, item in value.items()}
    if type(value) is str:
        return "".join(list(value))
    return value


def outcome(function, *args, **named):
    """Return what a call tells, or which error it raises with which fields, each with its kinds."""
    try:
        result = function(*args, **named)
    except WayError as error:
        return ("raises", type(error), shape(vars(error)))
    if not is_own(result):
        return ("not of Python's own kinds", repr(result))
    return ("tells", shape(result))


class Case(unittest.TestCase):
    """A test that makes each call by place, by names and with equal arguments."""

    def ask(self, function, *args):
        """Return the outcome of a call; it has to be the same in every manner, and to change nothing."""
        names = PARAMETERS[function.__name__]
        ahead = shape(args)
        first = outcome(function, *args)
        named = outcome(function, **dict(reversed(list(zip(names, args)))))
        again = outcome(function, *rebuilt(args))
        self.assertEqual(len(names), len(args))
        self.assertEqual(first, named, (function.__name__, args))
        self.assertEqual(first, again, (function.__name__, args))
        self.assertEqual(ahead, shape(args), function.__name__)
        return first

    def tells(self, wanted, function, *args):
        """The call has to tell what is wanted, of the same kinds."""
        self.assertEqual(("tells", shape(wanted)), self.ask(function, *args), (function.__name__, args))

    def raises(self, error, function, *args):
        """The call has to raise such an error, with these fields."""
        wanted = ("raises", type(error), shape(vars(error)))
        self.assertEqual(wanted, self.ask(function, *args), (function.__name__, args))

    def agrees(self, told, function, *args):
        """The call has to tell, or to raise, what told tells or raises by the same arguments."""
        self.assertEqual(outcome(told, *args), self.ask(function, *args), (function.__name__, args))


def nested_in(kind, depth):
    """Return an empty one of this kind, nested so deep."""
    value = kind()
    for _ in range(depth):
        value = kind([value])
    return value


STRANGE = (
    None, True, False, 0, 1, 2, -1, 5, 6, 24, 10 ** 399, -(10 ** 399),
    "", "in", "out", "-", "stand", "even", "plain", "rest", "go", "0", "\n", "way +0 -0", "9" * 20000, "~" * 20000,
    (), [], {}, (0,), [0], (1,), (0, 1), [0, 1], ("in", 0), ["in", 0], ("in", True), ("in", False), {"in": 0},
    {(0, ("a",)): [None]}, (None,), [None], ((), ()), ([], []), ((), (), ()), {0: (), 1: ()},
    ("-",), ["-"], (("-",),), (0, "rest", 0), [0, "rest", 0], (False, "rest", False),
    nested_in(tuple, 39), nested_in(list, 39), (None,) * 9000, (0,) * 8999, [("in", 0), ("out", 0)],
)


def parts(value, at=()):
    """Return the paths to value and to all that is within it."""
    paths = [at]
    if type(value) is tuple:
        for place, item in enumerate(value):
            paths.extend(parts(item, at + (place,)))
    return paths


def part(value, path):
    """Return what stands at this path within value."""
    for place in path:
        value = value[place]
    return value


def changed(value, path, new):
    """Return value with something else at this path."""
    if not path:
        return new
    place = path[0]
    return value[:place] + (changed(value[place], path[1:], new),) + value[place + 1:]


def variants(value, path):
    """Return values with another part at this path: of other kinds, one item more, less, twice, turned round."""
    here = part(value, path)
    news = list(STRANGE)
    if type(here) is tuple:
        news.extend([list(here), here + (None,), here[:-1], here[1:], here[::-1], here + here[-1:]])
        news.append(dict(enumerate(here)))
    if type(here) is int:
        news.extend([bool(here), here + 1, here - 1, str(here), (here,)])
    if type(here) is str:
        news.extend([here + " ", here[:-1], here.upper(), (here,), list(here), tuple(here)])
    return [changed(value, path, new) for new in news]


def drawn_way(draw, many, most=24):
    """Return a drawn way through so many rooms."""
    length = 2 * draw.randint(1, most // 2)
    way, rooms = [], []
    while len(way) < length:
        free = [room for room in range(many) if room not in rooms]
        enters = not rooms or (free and draw.random() < 0.55)
        if enters and len(way) + len(rooms) + 2 <= length:
            rooms.append(draw.choice(free))
            way.append(("in", rooms[-1]))
        else:
            way.append(("out", rooms.pop()))
    return tuple(way)


def drawn_order(draw, hands, hand):
    """Return a drawn order of all hands but this one."""
    others = [other for other in range(hands) if other != hand]
    draw.shuffle(others)
    return tuple(others)


def drawn_door(draw, hands):
    """Return a drawn door."""
    rows = [["-"] * hands for _ in range(hands)]
    for one in range(hands):
        for other in range(one + 1, hands):
            rows[one][other] = rows[other][one] = "even"
            if draw.random() < 0.6:
                rows[one][other], rows[other][one] = draw.choice(("stand", "bow")), draw.choice(("stand", "bow"))
    return (tuple(tuple(row) for row in rows), tuple(drawn_order(draw, hands, hand) for hand in range(hands)))


def drawn_house(draw, hands=None, many=None, most=24, doors=0.6):
    """Return a drawn house."""
    hands = hands or draw.randint(1, 5)
    many = many or draw.randint(1, 6)
    rooms = tuple(drawn_door(draw, hands) if draw.random() < doors else None for _ in range(many))
    return (rooms, tuple(drawn_way(draw, many, most) for _ in range(hands)))


def drawn_houses(seed, many, **told):
    """Return so many drawn houses, of every number of hands and of rooms."""
    draw = random.Random(seed)
    return [drawn_house(draw, hands=k % 5 + 1, many=k % 6 + 1, **told) for k in range(many)]


def drawn_standing(draw, house, entering=0.7):
    """Return a drawn standing of house, which need not come; many of its hands are at entries of doors."""
    spots = []
    for hand in range(len(house[1])):
        known = retold.all_spots(house, hand)
        at_entries = [spot for spot in known if spot[1] not in ("rest", "go")]
        spots.append(draw.choice(at_entries if at_entries and draw.random() < entering else known))
    return (tuple(spots), tuple((r, i, j, draw.choice((i, j))) for r, i, j in retold.pairs_even(house)))


def drawn_run(draw, house, standing, length):
    """Return a drawn run of at most so many hands, none of which is barred when its turn comes."""
    run, hand = [], 0
    for _ in range(length):
        hands = retold.movers(house, standing)
        if not hands:
            break
        # A hand that makes several steps at once gets farther into the others' ways.
        if hand not in hands or draw.random() < 0.5:
            hand = draw.choice(hands)
        run.append(hand)
        standing = retold.stepped(house, standing, hand)
    return tuple(run)
