"""Clients: they read a part of a paper, run a program on it, and write a part back."""

from maskwrites.cases import Case
from maskwrites.errors import BadMask
from maskwrites.grounds import Ground
from maskwrites.leasts import Least
from maskwrites.readings import after_reading, after_writing, names_of_client
from maskwrites.states import after_steps, first_state
from maskwrites.unlikes import show_ways, ways_between


def is_mask_of(schema, mask):
    """Tell whether all paths of a mask are paths of a schema."""
    return all([schema.is_path(path) for path in mask.paths])


def write_back(mask, result, paper):
    """Write into a paper what a result has at the paths of a mask."""
    for path in mask.paths:
        if path not in result:
            paper.clear(path)
    for path in mask.paths:
        if path in result:
            paper[path] = result[path]


class Client:
    """A reading mask, a program and a writing mask."""

    def __init__(self, schema, reads, program, writes):
        for mask in (reads, writes):
            if not is_mask_of(schema, mask):
                raise BadMask(mask)
        self._schema = schema
        self._reads = reads
        self._program = program
        self._writes = writes

    @property
    def schema(self):
        """The schema of the papers."""
        return self._schema

    @property
    def reads(self):
        """The reading mask."""
        return self._reads

    @property
    def program(self):
        """The program."""
        return self._program

    @property
    def writes(self):
        """The writing mask."""
        return self._writes

    def read(self, paper):
        """Return what the client reads of a paper."""
        return paper.only(self._reads)

    def result(self, paper):
        """Return what the program makes of what the client reads of a paper."""
        return self._program(self.read(paper))

    def written(self, paper, later):
        """Return what writing back into a later paper makes of it, after a paper was read."""
        made = later.copy()
        write_back(self._writes, self.result(paper), made)
        return made

    def alone(self, paper):
        """Return what writing back into the very paper that was read makes of it."""
        return self.written(paper, paper)


def first_unfaithful(client):
    """Return the least paper for which a client is not faithful, or None."""
    ground = Ground(client.schema, names_of_client(client))
    steps = client.program.steps
    least = Least(client.schema, ground)
    start = first_state(ground)
    for result, case in after_steps(ground, steps, after_reading(ground, client.reads, start), Case(ground)):
        for written, inner in after_writing(ground, client.writes, result, start, case):
            if least.may_take(inner):
                for whole, inmost in after_steps(ground, steps, start, inner):
                    show_ways(least, inmost, ways_between(ground, written, whole))
    return least.paper()
