"""What a program can change."""

from maskwrites.cases import Case
from maskwrites.grounds import Ground, map_names, names_of_steps
from maskwrites.leasts import Least, is_possible
from maskwrites.masks import Mask
from maskwrites.states import MADE, after_steps, first_state
from maskwrites.unlikes import all_unset, least_unlike, show_ways, ways_at, ways_of_first


def ways_to_be_unset(ground, source, at):
    """Return the pairs of literal and answer by which a part is unset, None if it is set."""
    if ground.words[at] == "message":
        return all_unset(source)
    if source[0] == "value":
        return None
    return [(("has", source[1]), False)] if source[0] == "from" else []


def ways_made(ground, state, at):
    """Return the ways in which a message is made and stays without parts."""
    if state[at] != MADE:
        return []
    way = [(("has", at), False)]
    for place in ground.reach[at]:
        if place != at:
            unset = ways_to_be_unset(ground, state[place], place)
            if unset is None:
                return []
            way.extend(unset)
    return [way]


def ways_changed(ground, state, at):
    """Return the ways in which a part is changed, where papers stand as a state tells."""
    if ground.words[at] == "message":
        return ways_of_first(("some", (at,)), state[at]) + ways_made(ground, state, at)
    return ways_at(ground, at, ("from", at), state[at])


def can_change(ground, rows, at):
    """Tell whether a part is changed in some paper, by the rows of state and case."""
    for state, case in rows:
        for way in ways_changed(ground, state, at):
            inner = case.told_all(way)
            if inner is not None and is_possible(inner):
                return True
    return False


def changed(program):
    """Return the least mask that covers all that a program can change."""
    ground = Ground(program.schema, names_of_steps(program.schema, program.steps))
    rows = after_steps(ground, program.steps, first_state(ground), Case(ground))
    mask = Mask()
    for at, path in enumerate(ground.places):
        # What can be done to the name to spare can be done to all names that the program does not name.
        told = path[:-1] if ground.is_spare(at) else path
        if told not in mask and can_change(ground, rows, at):
            mask = mask | Mask([told])
    return mask


def first_outside(program, mask):
    """Return the least paper in which a program changes a path that a mask does not cover, or None."""
    named = names_of_steps(program.schema, program.steps) + map_names(program.schema, mask.paths)
    ground = Ground(program.schema, named)
    outer = [at for at, path in enumerate(ground.places) if path not in mask]
    least = Least(program.schema, ground)
    for state, case in after_steps(ground, program.steps, first_state(ground), Case(ground)):
        if least.may_take(case):
            for at in outer:
                show_ways(least, case, ways_changed(ground, state, at))
    return least.paper()


def first_changed(program):
    """Return the least paper that a program changes at all, or None."""
    return least_unlike(program.schema, program.steps, ())
