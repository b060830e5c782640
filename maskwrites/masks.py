"""Masks: sets of paths of which none begins with another one."""

from maskwrites.errors import BadMask
from maskwrites.names import sorted_paths
from maskwrites.schemas import is_name_row


def is_mask_path(value):
    """Tell whether any value is a tuple of one or more names."""
    return is_name_row(value) and len(value) > 0


def begins_with_one(path, paths):
    """Tell whether a path begins with one of the paths that are the keys of a dict."""
    return any([path[:many] in paths for many in range(1, len(path) + 1)])


def least_paths(paths):
    """Return the ascending list of the paths that begin with no other one."""
    given = {path: True for path in paths}
    return [path for path in sorted_paths(given) if not begins_with_one(path[:-1], given)]


class Mask:
    """A set of paths that covers all paths that begin with one of them."""

    def __init__(self, paths=()):
        for path in paths:
            if not is_mask_path(path):
                raise BadMask(path)
        self._rows = least_paths(paths)
        self._covered = {path: True for path in self._rows}

    @property
    def paths(self):
        """The ascending list of the paths."""
        return list(self._rows)

    def __len__(self):
        return len(self._rows)

    def __eq__(self, other):
        return isinstance(other, Mask) and self._rows == other._rows

    def __contains__(self, path):
        return is_mask_path(path) and begins_with_one(path, self._covered)

    def __and__(self, other):
        shared = [path for path in self._rows if path in other]
        return Mask(shared + [path for path in other._rows if path in self])

    def __or__(self, other):
        return Mask(self._rows + other._rows)

    def within(self, other):
        """Tell whether another mask covers all paths of this one."""
        return all([path in other for path in self._rows])
