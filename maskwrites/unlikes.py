"""How states differ, and the least papers of which two rows of steps make other ones."""

from maskwrites.cases import Case
from maskwrites.grounds import Ground, names_of_steps
from maskwrites.leasts import Least
from maskwrites.states import MADE, UNSET, after_steps, first_state


def leaf_ways(first, second):
    """Return the ways in which a leaf differs that stands as two different sources tell."""
    if first[0] == "from" and second[0] == "from":
        return [[(("same", first[1], second[1]), False)]]
    if second[0] == "from":
        first, second = second, first
    if first[0] != "from":
        return [[]]
    if second == UNSET:
        return [[(("has", first[1]), True)]]
    return [[(("is", first[1], second[1]), False)]]


def all_unset(source):
    """Return the pairs of literal and answer by which a message is unset, None if it is set."""
    if source == MADE:
        return None
    return [] if source == UNSET else [(("has", at), False) for at in source[1]]


def ways_of_first(first, second):
    """Return the ways in which a message is set as one source tells, and unset as another one does."""
    unset = all_unset(second)
    if unset is None or first == UNSET:
        return []
    if first == MADE:
        return [unset]
    return [[(("has", at), True)] + unset for at in first[1]]


def ways_at(ground, at, first, second):
    """Return the ways in which a place differs that stands as two sources tell.

    A way is a list of pairs of literal and answer: the place differs in all papers for which all of them come out so.
    """
    if first == second or ground.words[at] == "map":
        return []
    if ground.words[at] == "message":
        return ways_of_first(first, second) + ways_of_first(second, first)
    return leaf_ways(first, second)


def ways_between(ground, first, second):
    """Return the ways in which two states differ."""
    if first == second:
        return []
    return [way for at in range(len(first)) for way in ways_at(ground, at, first[at], second[at])]


def show_ways(least, case, ways):
    """Show the cases into which a case falls by some ways."""
    for way in ways:
        inner = case.told_all(way)
        if inner is not None:
            least.show(inner)


def least_unlike(schema, first, second):
    """Return the least paper of which two tuples of steps, of any number, make other ones, or None."""
    ground = Ground(schema, names_of_steps(schema, first + second))
    least = Least(schema, ground)
    start = first_state(ground)
    for state, case in after_steps(ground, first, start, Case(ground)):
        if least.may_take(case):
            for other, inner in after_steps(ground, second, start, case):
                if least.may_take(inner):
                    show_ways(least, inner, ways_between(ground, state, other))
    return least.paper()
