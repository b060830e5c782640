"""Least papers of cases, and least pairs of papers."""

from maskwrites.contents import content_of
from maskwrites.names import least_number, least_text, value_key
from maskwrites.papers import Paper
from maskwrites.states import UNSET, first_state


def parts_of(case):
    """Return the ascending places of the parts that are known to be set."""
    return [at for at, word in enumerate(case.ground.words) if case.known[at] and word != "map"]


def with_flags(case):
    """Return the case in which all flags that are set have their least values; None if they can have none.

    What is wanted of the case is not looked at.
    """
    # Flags that are unlike follow at once, and others need not be set where nothing is wanted: so the first value
    # that can be is never wrong.
    told = case.without_wants()
    flags = [at for at in parts_of(case) if case.ground.words[at] == "flag"]
    for at in flags:
        if at not in told.worths:
            least = told.told(("is", at, False), True)
            told = told.told(("is", at, True), True) if least is None else least
            if told is None:
                return None
    return told


def can_be_set(case, at):
    """Tell whether nothing that is known of a case bars a place from being set."""
    inner = case.told(("has", at), True)
    return inner is not None and with_flags(inner) is not None


def without_barred(case):
    """Return the case in which those wanted places are unset that cannot be set; None if there is no such case."""
    rest = case
    for at in [place for want in case.wants for place in want]:
        if rest is not None and rest.known[at] is None and not can_be_set(rest, at):
            rest = rest.told(("has", at), False)
    return rest


def is_possible(case):
    """Tell whether there is a paper of a case."""
    # Without this, many wants that have nothing to do with one another would be tried in all combinations.
    rest = without_barred(case)
    if rest is None or with_flags(rest) is None:
        return False
    if not rest.wants:
        return True
    for at in rest.wants[0]:
        inner = rest.told(("has", at), True)
        if inner is not None and is_possible(inner):
            return True
    return False


def least_values(case, parts):
    """Return the dict from those of the parts that are leaves to their least values."""
    values = {at: case.worths[at] for at in parts if at in case.worths}
    for at in parts:
        if case.ground.is_leaf(at) and at not in values:
            alike = case.alike.get(at, (at,))
            unlike = [place for one in alike for place in case.unlike.get(one, ())]
            barred = list(case.barred.get(at, ())) + [values[place] for place in unlike if place in values]
            least = least_text(barred) if case.ground.words[at] == "text" else least_number(barred)
            for one in alike:
                values[one] = least
    return values


def is_set(case, source):
    """Tell whether what a source tells is known to be set."""
    if source[0] == "from":
        return case.known[source[1]] is True
    if source[0] == "some":
        return any([case.known[at] is True for at in source[1]])
    return source != UNSET


def parts_by(case, state):
    """Return the ascending places of the parts that are known to be set in papers as a state tells."""
    return [at for at, source in enumerate(state) if case.ground.words[at] != "map" and is_set(case, source)]


def worths_by(case, values, state):
    """Return the dict from the leaves among these parts to their values; the state tells none itself."""
    return {at: values[state[at][1]] for at in parts_by(case, state) if case.ground.is_leaf(at)}


def shown_by(ground, state):
    """Return the dict from the places that a state shows to those where it shows them."""
    shown = {}
    for at, source in enumerate(state):
        if ground.words[at] != "map" and source[0] in ("from", "some"):
            shown[source[1] if source[0] == "from" else source[1][0]] = at
    return shown


def least_parts(case, state):
    """Return how many parts papers as a state tells have at least, and the ascending parts they then have at least.

    No paper of the case comes ahead of these, neither one with more parts nor one with as many.
    """
    shown = shown_by(case.ground, state)
    parts = parts_by(case, state)
    taken = []
    for want in case.wants:
        places = [shown[at] for at in want if at in shown]
        # Wants that share no place ask for a part each.
        if len(places) == len(want) and not [at for at in places if at in taken]:
            taken.extend(places)
            parts.append(min([int(at) for at in places]))
    return (len(parts), sorted([int(at) for at in parts]))


class Least:
    """The least paper of all cases that it was shown, or the least pair of papers."""

    def __init__(self, schema, ground):
        self._schema = schema
        self._ground = ground
        # How the papers stand that are sought: one paper as it was, if nothing else is told.
        self._states = [first_state(ground)]
        self._best = None
        self._rows = []

    def look_at(self, states):
        """Tell how the papers stand in the cases that are shown from now on."""
        self._states = states

    def may_take(self, case):
        """Tell whether a paper of a case could come ahead of the least one so far."""
        if self._best is None:
            return True
        if case.many > self._best[0][0]:
            return False
        least = least_parts(case, self._states[0])
        if least != self._best[0][:2]:
            return least < self._best[0][:2]
        # Where the first paper surely has just these parts, the second one counts as well.
        if len(self._states) == 1 or parts_by(case, self._states[0]) != least[1]:
            return True
        return self._may_take_second(case)

    def _may_take_second(self, case):
        """Tell whether a pair of a case could come first whose first paper has the parts of the least one so far."""
        chosen = with_flags(case)
        if chosen is None:
            return False
        first = self._place_of(chosen, least_values(chosen, parts_of(chosen)), self._states[0])
        if first != self._best[0]:
            return first < self._best[0]
        return least_parts(case, self._states[1]) <= self._best[1][:2]

    def show(self, case):
        """Keep the least paper of a case, if it comes ahead of the least one so far."""
        rest = case
        while rest is not None and rest.wants and self.may_take(rest):
            literal = ("has", rest.wants[0][0])
            inner = rest.told(literal, True)
            if inner is not None:
                self.show(inner)
            rest = rest.told(literal, False)
        if rest is not None and self.may_take(rest):
            self._take(rest)

    def papers(self):
        """Return the list of the least papers, new ones, or None if there are none."""
        if self._best is None:
            return None
        return [Paper(self._schema, content_of(rows)) for rows in self._rows]

    def paper(self):
        """Return the least paper, a new one, or None if there is none."""
        found_papers = self.papers()
        return None if found_papers is None else found_papers[0]

    def _place_of(self, case, values, state):
        """Return what the papers of a case are ordered by that stand as a state tells."""
        parts = parts_by(case, state)
        worths = worths_by(case, values, state)
        return (len(parts), parts, [value_key(worths[at]) for at in parts if at in worths])

    def _take(self, case):
        """Keep the least papers of a case without wants, if they come first."""
        chosen = with_flags(case)
        if chosen is None:
            return
        values = least_values(chosen, parts_of(chosen))
        best = [self._place_of(chosen, values, state) for state in self._states]
        if self._best is None or best < self._best:
            self._best = best
            self._rows = [self._rows_of(chosen, values, state) for state in self._states]

    def _rows_of(self, case, values, state):
        """Return the pairs of path and value, or None, for the parts of a paper that stands as a state tells."""
        worths = worths_by(case, values, state)
        return [(self._ground.places[at], worths.get(at)) for at in parts_by(case, state)]


class Sight:
    """Whether there is a paper, or a pair of papers, of any case that it was shown."""

    def __init__(self):
        self.is_found = False

    def look_at(self, states):
        """Take how the papers stand in the cases that are shown; there are papers or not, however they stand."""

    def may_take(self, _):
        """Tell whether a case still counts."""
        return not self.is_found

    def show(self, case):
        """Keep whether there is a paper of a case."""
        self.is_found = self.is_found or is_possible(case)
