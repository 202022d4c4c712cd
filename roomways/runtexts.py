"""The texts of runs."""

from roomways.bounds import MAX_MOVES
from roomways.errors import BadText

FIGURES_OF_HANDS = "01234"


def run_text(run):
    """Return the text of a run."""
    return "".join([str(hand) for hand in run])


def read_run(value):
    """Return the run of which value is the text."""
    if not isinstance(value, str):
        raise BadText(0)
    for place, sign in enumerate(value):
        if sign not in FIGURES_OF_HANDS or place >= MAX_MOVES:
            raise BadText(place)
    return tuple([int(sign) for sign in value])
