"""States: what stands where after some steps, told by the paper as it was, for all papers of a case."""

from maskwrites.cases import same_literal

# A state is a list with what stands at each place of a paper: for a leaf UNSET, ("value", value), or ("from",
# place), as it was there; for a message UNSET, MADE, or ("some", places), set if one of these was set. Nothing is
# told of maps, only of their names. What was there is that of the first paper, or of the second one.
UNSET = ("unset",)
MADE = ("made",)


def state_from(ground, start):
    """Return the state of the papers as they were whose places are numbered from a start on."""
    places = range(start, start + ground.size)
    return [("some", (at,)) if ground.words[at] == "message" else ("from", at) for at in places]


def first_state(ground):
    """Return the state of the papers as they were, of the first ones where there are two."""
    return state_from(ground, 0)


def second_state(ground):
    """Return the state of the second papers as they were."""
    return state_from(ground, ground.size)


def clear_state(ground, state, at):
    """Clear a place in a state."""
    for place in ground.reach[at]:
        state[place] = UNSET


def fill_state(ground, state, path, value):
    """Put a value into a state, where nothing stands."""
    at = ground.numbers[path]
    if ground.is_leaf(at):
        state[at] = ("value", value)
        return
    if ground.words[at] == "message":
        state[at] = MADE
    for name in value:
        fill_state(ground, state, path + (name,), value[name])


def make_way(ground, state, at):
    """Set the messages above a place in a state, and clear what may not stand beside them, the place, and in it."""
    for place in ground.ways[at]:
        for mate in ground.beside[place]:
            clear_state(ground, state, mate)
        if ground.words[place] == "message":
            state[place] = MADE
    clear_state(ground, state, at)


def after_set(ground, state, path, value):
    """Return the state after a path was set to a value."""
    told = list(state)
    make_way(ground, told, ground.numbers[path])
    fill_state(ground, told, path, value)
    return told


def after_clear(ground, state, path):
    """Return the state after a path was cleared."""
    told = list(state)
    clear_state(ground, told, ground.numbers[path])
    return told


def after_copy(ground, state, source, path):
    """Return the state after a path was set to what stands as a source tells."""
    told = list(state)
    make_way(ground, told, ground.numbers[path])
    told[ground.numbers[path]] = source
    return told


def ask_literal(case, question):
    """Return the pairs of answer and case for a literal, or for a bool that is the answer."""
    if isinstance(question, bool):
        return [(question, case)]
    return case.forks(question)


def value_question(source, value):
    """Return whether what a source tells has a value, or the literal that tells it."""
    if source[0] == "from":
        return ("is", source[1], value)
    return source == ("value", value)


def set_question(ground, state, at):
    """Return whether a place is set, or the literal that tells it."""
    if ground.words[at] == "map":
        return some_question([state[place] for place in ground.inner[at]])
    source = state[at]
    if source[0] == "from":
        return ("has", source[1])
    if source[0] == "some":
        return ("has", source[1][0]) if len(source[1]) == 1 else source
    return source != UNSET


def some_question(sources):
    """Return whether one of some names of a map is set, or the literal that tells it."""
    if [source for source in sources if source[0] == "value"]:
        return True
    places = tuple([source[1] for source in sources if source[0] == "from"])
    return ("some", places) if places else False


def ask_same(case, first, second):
    """Return the pairs of answer and case for whether what two sources tell is the same."""
    if first == second:
        return [(True, case)]
    if first[0] == "from" and second[0] == "from":
        return case.forks(same_literal(first[1], second[1]))
    if second[0] == "from":
        first, second = second, first
    if first[0] != "from":
        return [(False, case)]
    if second[0] == "value":
        return case.forks(("is", first[1], second[1]))
    return [(not answer, inner) for answer, inner in case.forks(("has", first[1]))]


def ask(ground, state, case, test):
    """Return the pairs of an answer to a test after some steps, and the case in which it comes out so."""
    at = ground.numbers[test[1]]
    if test[0] == "has":
        return ask_literal(case, set_question(ground, state, at))
    if test[0] == "is":
        return ask_literal(case, value_question(state[at], test[2]))
    return ask_same(case, state[at], state[ground.numbers[test[2]]])


def after_step(ground, step, state, case):
    """Return the pairs of state and case after a step."""
    if step[0] == "set":
        return [(after_set(ground, state, step[1], step[2]), case)]
    if step[0] == "clear":
        return [(after_clear(ground, state, step[1]), case)]
    rows = []
    if step[0] == "when":
        for answer, inner in ask(ground, state, case, step[1]):
            rows.extend(after_steps(ground, step[2] if answer else step[3], state, inner))
        return rows
    at = ground.numbers[step[1]]
    for answer, inner in ask_literal(case, set_question(ground, state, at)):
        told = after_copy(ground, state, state[at], step[2]) if answer else after_clear(ground, state, step[2])
        rows.append((told, inner))
    return rows


def after_steps(ground, steps, state, case):
    """Return the pairs of state and case after steps, one after the other."""
    rows = [(state, case)]
    for step in steps:
        rows = [row for told, inner in rows for row in after_step(ground, step, told, inner)]
    return rows
