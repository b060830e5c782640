"""Stores: a paper that programs change, and clients that read it and write back later."""

from maskwrites.clients import is_mask_of
from maskwrites.errors import BadMask, NothingToUndo, Refused, UnknownNumber
from maskwrites.names import is_number
from maskwrites.papers import Paper


class Store:
    """A paper, the clients that have begun, and the deeds that were done."""

    def __init__(self, schema, content=None):
        self._schema = schema
        # This paper is never changed, a new one takes its place: so deeds may keep it.
        self._paper = Paper(schema, content)
        # For each number of a client that has begun and not ended: the client, its guard, the paper as it was.
        self._entries = {}
        # The last number that was given.
        self._last = 0
        # The deeds: ("begin", number), ("write", number, entry, paper before), ("refuse", number, entry), ("run",
        # program, paper before).
        self._deeds = []

    def paper(self):
        """Return the paper, a new one."""
        return self._paper.copy()

    def begin(self, client, guard):
        """Begin a client that reads the paper as it is now, and return its number."""
        if not is_mask_of(self._schema, guard):
            raise BadMask(guard)
        self._last += 1
        self._entries[self._last] = (client, guard, self._paper)
        self._deeds.append(("begin", self._last))
        return self._last

    def finish(self, number):
        """Let a client write back and return True, or raise Refused if its guard bars it."""
        # True would be found as 1, and what is no number may have no hash.
        if not is_number(number) or number not in self._entries:
            raise UnknownNumber(number)
        entry = self._entries[number]
        client, guard, before = entry
        del self._entries[number]
        if before.only(guard) != self._paper.only(guard):
            self._deeds.append(("refuse", number, entry))
            raise Refused(number)
        self._deeds.append(("write", number, entry, self._paper))
        self._paper = client.written(before, self._paper)
        return True

    def run(self, program):
        """Change the paper by a program."""
        self._deeds.append(("run", program, self._paper))
        self._paper = program(self._paper)

    def begun(self):
        """Return the ascending list of the numbers of clients that have begun and not ended."""
        return sorted([int(number) for number in self._entries])

    def history(self):
        """Return the list of what was done to the paper, in sequence."""
        return [deed[:2] for deed in self._deeds if deed[0] in ("run", "write")]

    def undo(self, many):
        """Take back so many of the last deeds, or raise NothingToUndo."""
        if not is_number(many) or many > len(self._deeds):
            raise NothingToUndo(many)
        for _ in range(many):
            self._take_back(self._deeds.pop())

    def _take_back(self, deed):
        """Take back the last deed."""
        if deed[0] == "begin":
            del self._entries[deed[1]]
            self._last -= 1
        elif deed[0] == "run":
            self._paper = deed[2]
        else:
            self._entries[deed[1]] = deed[2]
            if deed[0] == "write":
                self._paper = deed[3]
