"""What clients read and write back, told as states."""

from maskwrites.grounds import map_names, names_of_steps
from maskwrites.states import MADE, UNSET, ask_literal, clear_state, make_way, set_question


def names_of_client(client):
    """Return the paths to names of maps that a client's program and its masks name."""
    paths = client.reads.paths + client.writes.paths
    return names_of_steps(client.schema, client.program.steps) + map_names(client.schema, paths)


def covered_places(ground, mask):
    """Return the ascending places of a paper that a mask covers."""
    return [at for at, path in enumerate(ground.places) if path in mask]


def any_of(sources):
    """Return the source of a message that is set if something is of what some sources tell, which are no values."""
    places = []
    for source in sources:
        if source == MADE:
            return MADE
        if source[0] == "from":
            places.append(source[1])
        elif source[0] == "some":
            places.extend(source[1])
    return ("some", tuple(places)) if places else UNSET


def after_reading(ground, mask, state):
    """Return the state of those parts that a mask covers, and of the messages above those, of papers or later ones."""
    covered = {at: True for at in covered_places(ground, mask)}
    told = []
    for at, source in enumerate(state):
        if at in covered:
            told.append(source)
        elif ground.words[at] == "message":
            told.append(any_of([state[place] for place in ground.reach[at] if place in covered]))
        else:
            told.append(UNSET)
    return told


def write_had(ground, told, at, result):
    """Set a place in a state to what a result has there, which is set."""
    make_way(ground, told, at)
    for place in ground.reach[at]:
        told[place] = result[place]


def written_state(ground, answers, result, state):
    """Return a state after a result was written into it, by answers for places whether the result has them."""
    told = list(state)
    for at, answer in answers:
        if not answer:
            clear_state(ground, told, at)
    for at, answer in answers:
        if answer:
            write_had(ground, told, at, result)
    return told


def after_writing(ground, mask, result, state, case):
    """Return the pairs of state and case after a result was written into a state, as far as a mask says."""
    rows = [([], case)]
    for path in mask.paths:
        at = ground.numbers[path]
        question = set_question(ground, result, at)
        rows = [
            (answers + [(at, answer)], deeper)
            for answers, inner in rows for answer, deeper in ask_literal(inner, question)
        ]
    return [(written_state(ground, answers, result, state), inner) for answers, inner in rows]
