"""Least papers of cases."""

from maskwrites.contents import content_of
from maskwrites.names import least_number, least_text, value_key
from maskwrites.papers import Paper


def parts_of(case):
    """Return the ascending places of the parts that are known to be set."""
    return [at for at, word in enumerate(case.ground.words) if case.known[at] and word != "map"]


def with_flags(case):
    """Return the case in which all flags that are set have their least values; None if they can have none.

    What is wanted of the case is not looked at.
    """
    # Flags that are unlike follow at once, and others need not be set where nothing is wanted: so the first value
    # that can be is never wrong.
    told = case.without_wants()
    flags = [at for at in parts_of(case) if case.ground.words[at] == "flag"]
    for at in flags:
        if at not in told.worths:
            least = told.told(("is", at, False), True)
            told = told.told(("is", at, True), True) if least is None else least
            if told is None:
                return None
    return told


def can_be_set(case, at):
    """Tell whether nothing that is known of a case bars a place from being set."""
    inner = case.told(("has", at), True)
    return inner is not None and with_flags(inner) is not None


def without_barred(case):
    """Return the case in which those wanted places are unset that cannot be set; None if there is no such case."""
    rest = case
    for at in [place for want in case.wants for place in want]:
        if rest is not None and rest.known[at] is None and not can_be_set(rest, at):
            rest = rest.told(("has", at), False)
    return rest


def is_possible(case):
    """Tell whether there is a paper of a case."""
    # Without this, many wants that have nothing to do with one another would be tried in all combinations.
    rest = without_barred(case)
    if rest is None or with_flags(rest) is None:
        return False
    if not rest.wants:
        return True
    for at in rest.wants[0]:
        inner = rest.told(("has", at), True)
        if inner is not None and is_possible(inner):
            return True
    return False


def least_values(case, parts):
    """Return the dict from those of the parts that are leaves to their least values."""
    values = {at: case.worths[at] for at in parts if at in case.worths}
    for at in parts:
        if case.ground.is_leaf(at) and at not in values:
            alike = case.alike.get(at, (at,))
            unlike = [place for one in alike for place in case.unlike.get(one, ())]
            barred = list(case.barred.get(at, ())) + [values[place] for place in unlike if place in values]
            least = least_text(barred) if case.ground.words[at] == "text" else least_number(barred)
            for one in alike:
                values[one] = least
    return values


class Least:
    """The least paper of all cases that it was shown."""

    def __init__(self, schema, ground):
        self._schema = schema
        self._ground = ground
        self._best = None
        self._values = {}

    def may_take(self, case):
        """Tell whether a paper of a case could come ahead of the least one so far."""
        if self._best is None:
            return True
        return case.many + min(1, len(case.wants)) <= self._best[0]

    def show(self, case):
        """Keep the least paper of a case, if it comes ahead of the least one so far."""
        rest = case
        while rest is not None and rest.wants and self.may_take(rest):
            literal = ("has", rest.wants[0][0])
            inner = rest.told(literal, True)
            if inner is not None:
                self.show(inner)
            rest = rest.told(literal, False)
        if rest is not None and self.may_take(rest):
            self._take(rest)

    def paper(self):
        """Return the least paper, a new one, or None if there is none."""
        if self._best is None:
            return None
        rows = [(self._ground.places[at], self._values.get(at)) for at in self._best[1]]
        return Paper(self._schema, content_of(rows))

    def _take(self, case):
        """Keep the least paper of a case without wants, if it comes first."""
        parts = parts_of(case)
        if self._best is not None and (len(parts), parts) > (self._best[0], self._best[1]):
            return
        chosen = with_flags(case)
        if chosen is None:
            return
        values = least_values(chosen, parts)
        place = (len(parts), parts, [value_key(values[at]) for at in parts if at in values])
        if self._best is None or place < self._best:
            self._best = place
            self._values = values
