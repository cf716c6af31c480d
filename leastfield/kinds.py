"""What kind of thing a value is, where any value may come."""


def is_int(value):
    """Whether a value is an integer: Python counts bools among them, the package does not."""
    return isinstance(value, int) and not isinstance(value, bool)


def is_place(value, many):
    """Whether a value is one of the numbers below many."""
    return is_int(value) and 0 <= value < many


def is_tuple_of(value, many):
    """Whether a value is a tuple of so many things."""
    return isinstance(value, tuple) and len(value) == many


def are_ints(value, many):
    """Whether a value is a tuple of so many integers."""
    return is_tuple_of(value, many) and all([is_int(thing) for thing in value])


def are_numbers(value):
    """Whether a value is an ascending tuple of numbers."""
    if not isinstance(value, tuple):
        return False
    least = 0
    for number in value:
        if not is_int(number) or number < least:
            return False
        least = number + 1
    return True
