"""Questions about plain integers and tuples of them that any value may be asked."""


def is_plain_integer(thing):
    """Whether any value is an integer and no bool."""
    return isinstance(thing, int) and not isinstance(thing, bool)


def is_direction(thing):
    """Whether any value is an integer from 0 to 4."""
    return is_plain_integer(thing) and 0 <= thing <= 4


def is_tuple_of(thing, many):
    """Whether any value is a tuple with so many items."""
    return isinstance(thing, tuple) and len(thing) == many


def are_plain_integers(thing, many):
    """Whether any value is a tuple of so many integers."""
    return is_tuple_of(thing, many) and all([is_plain_integer(part) for part in thing])


def is_line(thing):
    """Whether any value is a pair of a direction and an integer."""
    return is_tuple_of(thing, 2) and is_direction(thing[0]) and is_plain_integer(thing[1])


def is_ascending(rows):
    """Whether tuples of integers ascend, none of them twice."""
    return all([row < rows[at + 1] for at, row in enumerate(rows[:-1])])
