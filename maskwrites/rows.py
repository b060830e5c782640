"""Rows of tables: their form, and what they tell over a ground."""

from maskwrites.cases import same_literal
from maskwrites.grounds import map_names, paths_of_test
from maskwrites.names import are_ascending
from maskwrites.programs import are_two_leaves, is_leaf, is_test
from maskwrites.schemas import is_name_row
from maskwrites.states import MADE, UNSET, clear_state, first_state, set_question


def is_pair(value):
    """Tell whether any value is a tuple of two."""
    return isinstance(value, tuple) and len(value) == 2


def is_more(schema, value):
    """Tell whether any value is a test whether a map has a name beside some."""
    if not isinstance(value, tuple) or len(value) != 3 or value[0] != "more":
        return False
    if not schema.is_path(value[1]) or schema.kind_at(value[1])[0] != "map":
        return False
    return is_name_row(value[2]) and are_ascending(value[2])


def is_source(schema, path, value):
    """Tell whether any value is a source for a path."""
    if not isinstance(value, tuple):
        return False
    if value == UNSET:
        return True
    if value == MADE:
        return schema.kind_at(path)[0] == "message"
    if not is_pair(value) or not is_leaf(schema, path):
        return False
    if value[0] == "value":
        return schema.is_value(path, value[1])
    return value[0] == "from" and (value[1] == path or are_two_leaves(schema, path, value[1]))


def are_tests(schema, value):
    """Tell whether any value is a tuple of pairs of a test and a bool."""
    if not isinstance(value, tuple) or not all([is_pair(pair) and isinstance(pair[1], bool) for pair in value]):
        return False
    return all([is_test(schema, pair[0]) or is_more(schema, pair[0]) for pair in value])


def is_result(schema, value):
    """Tell whether any value is a tuple of pairs of a path and a source, the paths ascending and different."""
    if not isinstance(value, tuple) or not all([is_pair(pair) and schema.is_path(pair[0]) for pair in value]):
        return False
    if not are_ascending([pair[0] for pair in value]):
        return False
    return all([is_source(schema, pair[0], pair[1]) for pair in value])


def are_rows(schema, value):
    """Tell whether any value is a list of rows, right or not."""
    if not isinstance(value, list) or not all([is_pair(row) for row in value]):
        return False
    return all([are_tests(schema, row[0]) and is_result(schema, row[1]) for row in value])


def names_of_rows(schema, rows):
    """Return the paths to names of maps that rows name."""
    paths = []
    for tests, result in rows:
        paths.extend([path for test, _ in tests for path in paths_of_test(test)])
        for path, source in result:
            paths.append(path)
            if source[0] == "from":
                paths.append(source[1])
    return map_names(schema, paths)


def literal_of(ground, test):
    """Return the literal that tells whether a test holds for papers as they are."""
    at = ground.numbers[test[1]]
    if test[0] == "has":
        return set_question(ground, first_state(ground), at)
    if test[0] == "is":
        return ("is", at, test[2])
    if test[0] == "same":
        return same_literal(at, ground.numbers[test[2]])
    return ("some", tuple([place for place in ground.inner[at] if ground.places[place][-1] not in test[2]]))


def test_of(ground, literal):
    """Return the test that tells whether a literal holds for papers as they are."""
    if literal[0] == "same":
        return ("same", ground.places[literal[1]], ground.places[literal[2]])
    if literal[0] == "is":
        return ("is", ground.places[literal[1]], literal[2])
    if literal[0] == "has":
        return ("has", ground.places[literal[1]])
    above = ground.above[literal[1][0]]
    names = [ground.places[at][-1] for at in ground.inner[above] if at not in literal[1]]
    path = ground.places[above]
    return ("more", path, tuple(names)) if names else ("has", path)


def told_source(ground, state, at):
    """Return the source by which a row tells a place of a state, None if it need not be told."""
    source = state[at]
    if ground.words[at] == "map":
        return UNSET if state[ground.spares[at]] == UNSET else None
    if ground.words[at] == "message":
        return None if source == ("some", (at,)) else source
    above = ground.above[at]
    if above in ground.spares and state[ground.spares[above]] == UNSET:
        # The map is told as unset, so that only what is set need be told, but also what stays as it was.
        told = None if source == UNSET else source
    else:
        told = None if source == ("from", at) else source
    return ("from", ground.places[told[1]]) if told is not None and told[0] == "from" else told


def told_below(ground, state, places):
    """Return the pairs of path and source by which a row tells some places of a state, and what is below them."""
    pairs = []
    for at in places:
        source = told_source(ground, state, at)
        if source is not None:
            pairs.append((ground.places[at], source))
        if source != UNSET or ground.words[at] == "map":
            pairs.extend(told_below(ground, state, ground.inner[at]))
    return pairs


def result_of(ground, state):
    """Return the result of a row that tells a state."""
    tops = [at for at, above in enumerate(ground.above) if above < 0]
    return tuple(told_below(ground, state, tops))


def message_source(ground, state, at):
    """Return the source of a message that is set if its own source tells so, or if it has a part below it."""
    places = []
    for part in ground.reach[at]:
        source = state[part]
        if source == MADE or source[0] == "value":
            return MADE
        if source[0] == "from":
            places.append(source[1])
        elif source != UNSET:
            places.extend(source[1])
    if at in places:
        # What was set below it was so together with it.
        places = [at] + [place for place in places if at not in ground.ways[place]]
    told = tuple(list({place: True for place in places}))
    return ("some", told) if told else UNSET


def state_of(ground, result):
    """Return the state that a row's result tells."""
    state = first_state(ground)
    for path, source in result:
        if source == UNSET:
            clear_state(ground, state, ground.numbers[path])
    for path, source in result:
        if source[0] == "from":
            state[ground.numbers[path]] = ("from", ground.numbers[source[1]])
        elif source != UNSET:
            state[ground.numbers[path]] = source
    messages = [at for at, word in enumerate(ground.words) if word == "message"]
    sources = [message_source(ground, state, at) for at in messages]
    for at, source in zip(messages, sources):
        state[at] = source
    return state
