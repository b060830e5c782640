"""Guards, by which clients write back only if what they cover is as it was."""

from maskwrites.masks import Mask
from maskwrites.pairs import is_slipping, least_slipped
from maskwrites.picks import holds_one, picks_of


def first_slipped(client, rights, guard):
    """Return the least pair for which a client with a guard is not as if at once, or None."""
    return least_slipped(client, rights, guard)


def least_guards(client, rights, paths):
    """Return the list of the least tuples of some paths that as guards let no pair slip."""
    found_picks = []
    for pick in picks_of(paths):
        if not holds_one(pick, found_picks) and not is_slipping(client, rights, Mask(pick)):
            found_picks.append(pick)
    return found_picks
