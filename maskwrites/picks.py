"""Picks: ascending tuples of some of the paths that are handed in."""

from maskwrites.names import sorted_paths


def picks_of_many(paths, many):
    """Return the list of the picks of so many of some ascending paths, as Python compares lists."""
    if many == 0:
        return [()]
    picks = []
    for at, path in enumerate(paths):
        picks.extend([(path,) + rest for rest in picks_of_many(paths[at + 1:], many - 1)])
    return picks


def picks_of(paths):
    """Return the list of all picks of some paths, fewer paths first, then as Python compares lists."""
    ascending = sorted_paths(paths)
    return [pick for many in range(len(ascending) + 1) for pick in picks_of_many(ascending, many)]


def holds_one(pick, picks):
    """Tell whether a pick has all paths of one of some picks."""
    return any([all([path in pick for path in other]) for other in picks])
