"""Verdicts: whether a house gets stuck, with what shows it."""

from roomways.kinds import is_tuple_of
from roomways.nevers import never, never_error
from roomways.stalls import stall, stall_error


def verdict(house):
    """Return a verdict on house."""
    told = stall(house)
    if told is not None:
        return ("stuck", told)
    return ("never", never(house))


def verdict_error(house, value):
    """Return None if value is a verdict on house, otherwise what is wrong with it."""
    if not is_tuple_of(value, 2) or value[0] not in ("stuck", "never"):
        return "form"
    if value[0] == "stuck":
        word, error = "stall", stall_error(house, value[1])
    else:
        word, error = "paper", never_error(house, value[1])
    if error is None:
        return None
    return (word, error)
