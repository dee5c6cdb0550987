"""What the values are that all parts of the program share: names, states and rows (point [2])."""

LETTERS = "abcdefghijklmnopqrstuvwxyz"
LONGEST_NAME = 12
GREATEST_STATE = 99


def is_name(value):
    """Whether any object is a name: a string of 1 to 12 letters from a to z."""
    if not isinstance(value, str) or not 1 <= len(value) <= LONGEST_NAME:
        return False
    return all([letter in LETTERS for letter in value])


def is_state(value):
    """Whether any object is a state: an integer from 0 to 99."""
    return is_whole(value) and 0 <= value <= GREATEST_STATE


def is_whole(value):
    """Whether any object is an integer; True and False are none."""
    return isinstance(value, int) and not isinstance(value, bool)


def is_row(value):
    """Whether any object is a row: a list or a tuple."""
    return isinstance(value, (list, tuple))


def is_ascending(values):
    """Whether each item of a row of numbers, names or tuples of such is less than the next one."""
    return all([one < other for one, other in zip(values, values[1:])])
