"""Names, texts, numbers and flags, and how values are ordered."""

LETTERS = "abcdefghijklmnopqrstuvwxyz"
LONGEST_NAME = 8
LONGEST_TEXT = 12


def is_name(value):
    """Tell whether any value is a name."""
    return is_letter_row(value) and 1 <= len(value) <= LONGEST_NAME


def is_text(value):
    """Tell whether any value is a text."""
    return is_letter_row(value) and len(value) <= LONGEST_TEXT


def is_number(value):
    """Tell whether any value is a number."""
    # Python takes a bool for an int, the document does not.
    return isinstance(value, int) and not isinstance(value, bool) and value >= 0


def is_flag(value):
    """Tell whether any value is a flag."""
    return isinstance(value, bool)


def value_key(value):
    """Return that by which Python sorts values of one kind in their order."""
    if isinstance(value, str):
        return (len(value), value)
    return value


def is_letter_row(value):
    """Tell whether any value is a string of letters a to z alone, perhaps of none."""
    # Not by islower or isalpha, which take letters beyond a to z.
    return isinstance(value, str) and all([sign in LETTERS for sign in value])


def sorted_names(names):
    """Return the ascending list of names."""
    return sorted([str(name) for name in names])


def sorted_paths(paths):
    """Return the ascending list of tuples of names, each of one name or more."""
    # A point comes ahead of all letters, so the texts stand as the tuples do.
    return [tuple(text.split(".")) for text in sorted([str(".".join(path)) for path in paths])]


def are_ascending(values):
    """Tell whether names, or tuples of names, are ascending and different."""
    return all([values[at] < values[at + 1] for at in range(len(values) - 1)])


def letter_after(letter):
    """Return the next letter, for any but the last one."""
    return LETTERS[LETTERS.index(letter) + 1]


def name_after(name):
    """Return the name that comes next, as Python compares strings."""
    if len(name) < LONGEST_NAME:
        return name + "a"
    kept = name.rstrip("z")
    return kept[:-1] + letter_after(kept[-1])


def text_after(text):
    """Return the text that comes next: shorter ones come first."""
    kept = text.rstrip("z")
    if kept == "":
        return "a" * (len(text) + 1)
    return kept[:-1] + letter_after(kept[-1]) + "a" * (len(text) - len(kept))


def least_name(taken):
    """Return the least name that is not among those that are taken."""
    name = "a"
    while name in taken:
        name = name_after(name)
    return name


def least_text(barred):
    """Return the least text that is not barred."""
    text = ""
    while text in barred:
        text = text_after(text)
    return text


def least_number(barred):
    """Return the least number that is not barred."""
    number = 0
    while number in barred:
        number += 1
    return number
