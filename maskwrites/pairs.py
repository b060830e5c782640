"""Pairs of a paper and a later one, and those for which a client is not as if at once."""

from maskwrites.cases import Case
from maskwrites.grounds import Ground, map_names
from maskwrites.leasts import Least, Sight
from maskwrites.readings import after_reading, after_writing, covered_places, names_of_client
from maskwrites.states import UNSET, after_steps, first_state, make_way, second_state
from maskwrites.unlikes import show_ways, ways_between


def after_others(ground, state, at):
    """Return the state after others set a place, which they have the right to, and perhaps cleared it again."""
    told = list(state)
    make_way(ground, told, at)
    # What others put there is free, so it is told as that of a second paper of which nothing is known.
    others = second_state(ground)
    for place in ground.reach[at]:
        told[place] = others[place]
    return told


def is_needless(ground, state, places):
    """Tell whether the papers of a state are also those of the state after others set one of some places."""
    for at in places:
        told = after_others(ground, state, at)
        rest = [place for place in range(ground.size) if place not in ground.reach[at]]
        if told != state and all([told[place] == state[place] for place in rest]):
            return True
    return False


def later_states(ground, rights):
    """Return the states of the later papers of the first papers."""
    # To clear what is set, and to set or clear below it, comes to the same as to set it: the messages above it are
    # set already, and nothing stands beside it. What is unset is unset already. So setting is all that counts.
    places = [ground.numbers[path] for path in rights.paths]
    states = [first_state(ground)]
    todo = list(states)
    while todo:
        state = todo.pop()
        for at in places:
            told = after_others(ground, state, at)
            if told not in states:
                states.append(told)
                todo.append(told)
    return [found for found in states if not is_needless(ground, found, places)]


def same_pairs(first, second):
    """Return the pairs of literal and answer by which two sources tell the same, None if they cannot.

    A message that may be set is to be told by one place.
    """
    if first == second:
        return []
    if second[0] in ("from", "some"):
        first, second = second, first
    if first[0] not in ("from", "some"):
        return None
    at = first[1] if first[0] == "from" else first[1][0]
    if second == UNSET:
        return [(("has", at), False)]
    if second[0] == "value":
        return [(("is", at, second[1]), True)]
    if second[0] == "made":
        return [(("has", at), True)]
    return [(("same", at, second[1] if second[0] == "from" else second[1][0]), True)]


def told_same(ground, case, places, first, second):
    """Return the case in which two states have the same parts and values at some places; None if it cannot be."""
    rows = []
    for at in places:
        if ground.words[at] != "map":
            pairs = same_pairs(first[at], second[at])
            if pairs is None:
                return None
            rows.extend(pairs)
    return case.told_all(rows)


def show_unlike_writings(least, ground, client, later, case, results):
    """Show the cases in which two results are not written back into a later paper as the same."""
    counted = [at for path in client.writes.paths for at in ground.reach[ground.numbers[path]]]
    if all([results[0][at] == results[1][at] for at in counted]):
        return
    for first, inner in after_writing(ground, client.writes, results[0], later, case):
        if least.may_take(inner):
            for second, inmost in after_writing(ground, client.writes, results[1], later, inner):
                show_ways(least, inmost, ways_between(ground, first, second))


def show_lost_later(least, ground, client, later, case):
    """Show the cases in which a client is not as if at once for the later papers of a state."""
    steps = client.program.steps
    before = after_reading(ground, client.reads, first_state(ground))
    behind = after_reading(ground, client.reads, later)
    if before == behind:
        return
    for first, inner in after_steps(ground, steps, before, case):
        if least.may_take(inner):
            for second, inmost in after_steps(ground, steps, behind, inner):
                if least.may_take(inmost):
                    show_unlike_writings(least, ground, client, later, inmost, (first, second))


def ground_of_slipped(client, rights, guard):
    """Return the ground for the pairs of a paper and a later one of a client with a guard."""
    named = map_names(client.schema, rights.paths + guard.paths)
    return Ground(client.schema, names_of_client(client) + named, 2)


def show_slipped(least, ground, client, rights, guard):
    """Show the cases in which a client with a guard is not as if at once."""
    start = first_state(ground)
    guarded = covered_places(ground, guard)
    for later in later_states(ground, rights):
        case = told_same(ground, Case(ground), guarded, start, later)
        if case is not None:
            least.look_at([start, later])
            show_lost_later(least, ground, client, later, case)


def least_slipped(client, rights, guard):
    """Return the least pair for which a client with a guard is not as if at once, or None."""
    ground = ground_of_slipped(client, rights, guard)
    least = Least(client.schema, ground)
    show_slipped(least, ground, client, rights, guard)
    papers = least.papers()
    return None if papers is None else tuple(papers)


def is_slipping(client, rights, guard):
    """Tell whether there is a pair for which a client with a guard is not as if at once."""
    ground = ground_of_slipped(client, rights, guard)
    sight = Sight()
    show_slipped(sight, ground, client, rights, guard)
    return sight.is_found
