"""Questions about single arguments that several modules ask."""

from wipedtalk.errors import InvalidNumber


def is_integer_from(thing, low):
    """Whether a thing is an integer, and not below low."""
    # To Python a bool is an int, but True is not 1 here.
    return isinstance(thing, int) and not isinstance(thing, bool) and thing >= low


def is_below(thing, limit):
    """Whether a thing is an integer from 0 on, below limit."""
    return is_integer_from(thing, 0) and thing < limit


def is_none_or_below(thing, limit):
    """Whether a thing is None, or an integer from 0 on, below limit."""
    return thing is None or is_below(thing, limit)


def is_list(thing):
    """Whether a thing may stand where a list is wanted."""
    return isinstance(thing, (list, tuple))


def check_number(thing, low):
    """Raise InvalidNumber if a thing is not an integer from low on."""
    if not is_integer_from(thing, low):
        raise InvalidNumber(thing)
