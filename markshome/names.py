"""Names, and the limits of the program."""

MOST_HOUSES = 12
MOST_LINES = 30
MOST_TREES = 4
MOST_LOT_HOUSES = 9
MOST_CHOICES = 400
MOST_DAMAGES = 200

MOST_SIGNS = 8
LETTERS = "abcdefghijklmnopqrstuvwxyz"
LETTERS_AND_DIGITS = "abcdefghijklmnopqrstuvwxyz0123456789"


def is_name(value):
    """True if the value is a name."""
    if not isinstance(value, str) or not 1 <= len(value) <= MOST_SIGNS:
        return False
    return value[0] in LETTERS and all([sign in LETTERS_AND_DIGITS for sign in value])


def ascending(names):
    """The texts of a list or tuple from small to great, each once."""
    return sorted(set(names))
