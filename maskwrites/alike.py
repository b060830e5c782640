"""Whether two programs do the same, or the least paper that they change otherwise."""

from maskwrites.unlikes import least_unlike


def first_unlike(first, second):
    """Return the least paper that two programs change otherwise, or None."""
    return least_unlike(first.schema, first.steps, second.steps)


def are_alike(first, second):
    """Tell whether there is no paper that two programs change otherwise."""
    return first_unlike(first, second) is None
