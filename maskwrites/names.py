"""Names, texts, numbers and flags, and how values are ordered."""

LETTERS = "abcdefghijklmnopqrstuvwxyz"
LONGEST_NAME = 8
LONGEST_TEXT = 12


def is_name(value):
    """Tell whether any value is a name."""
    return is_letter_row(value) and 1 <= len(value) <= LONGEST_NAME


def is_text(value):
    """Tell whether any value is a text."""
    return is_letter_row(value) and len(value) <= LONGEST_TEXT


def is_number(value):
    """Tell whether any value is a number."""
    # Python takes a bool for an int, the document does not.
    return isinstance(value, int) and not isinstance(value, bool) and value >= 0


def is_flag(value):
    """Tell whether any value is a flag."""
    return isinstance(value, bool)


def value_key(value):
    """Return that by which Python sorts values of one kind in their order."""
    if isinstance(value, str):
        return (len(value), value)
    return value


def is_letter_row(value):
    """Tell whether any value is a string of letters a to z alone, perhaps of none."""
    # Not by islower or isalpha, which take letters beyond a to z.
    return isinstance(value, str) and all([sign in LETTERS for sign in value])
