"""Of which kind a value is."""


def is_integer(value):
    """Tell whether value is an integer."""
    # A bool is an int to Python, but no integer here.
    return isinstance(value, int) and not isinstance(value, bool)


def is_below(value, many):
    """Tell whether value is one of the integers from 0 to many - 1."""
    return is_integer(value) and 0 <= value < many


def is_tuple_of(value, many):
    """Tell whether value is a tuple of so many items."""
    return isinstance(value, tuple) and len(value) == many


def is_pair_of_tuples(value):
    """Tell whether value is a pair both items of which are tuples."""
    return is_tuple_of(value, 2) and isinstance(value[0], tuple) and isinstance(value[1], tuple)


def is_tuple_below(value, many):
    """Tell whether value is a tuple of integers from 0 to many - 1."""
    return isinstance(value, tuple) and all([is_below(item, many) for item in value])


def is_ring_below(value, many):
    """Tell whether value is a tuple of two integers or more from 0 to many - 1, each once."""
    return is_tuple_below(value, many) and len(value) > 1 and len(set(value)) == len(value)


def is_same(value, told):
    """Tell whether value is what is told, which is made of tuples, integers and strings, True being no 1 here."""
    if isinstance(told, tuple):
        return is_tuple_of(value, len(told)) and all([is_same(item, other) for item, other in zip(value, told)])
    return not isinstance(value, bool) and value == told
