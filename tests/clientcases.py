"""Clients, rights and guards by chance (always the same ones), with all small papers and later ones, for tests."""

import random

from maskwrites.clients import Client
from maskwrites.masks import Mask
from maskwrites.papers import Paper
from tests import flat
from tests.samples import FEW, Chance, all_papers, all_paths, shapes, values_of

THREE = {"number": [0, 1, 2], "text": ["", "a", "b"], "flag": [False, True]}
MOST_PAPERS = 500
TRIED = 40


def small_steps(schema, values, names):
    """Return all steps that set or clear with the values and names told alone."""
    steps = []
    for path in all_paths(schema, names):
        steps.append(("clear", path))
        steps.extend([("set", path, value) for value in values_of(schema, schema.kind_at(path), values, names)])
    return steps


class World:
    """A schema, its small papers as flat documents, ascending, and what is made by chance over it."""

    def __init__(self, number):
        self.random = random.Random(number)
        self.schema, values, names = shapes()[number % len(shapes())]
        for values, names in ((THREE, names[:3]), (FEW, names[:3]), (FEW, names[:2])):
            papers = all_papers(self.schema, values, names)
            if len(papers) <= MOST_PAPERS:
                break
        self.names = names
        self.values = values
        self.papers = sorted([flat.parts_of(paper) for paper in papers], key=flat.order_key)
        # Programs name one name and two values, so that there are more of which they don't speak.
        self.chance = Chance(number, self.schema, FEW, names[:1])
        self.steps = small_steps(self.schema, values, names)
        self.tops = Mask([(field,) for field in self.schema.fields(())])

    def mask(self, most):
        paths = all_paths(self.schema, self.names[:1])
        return Mask([self.random.choice(paths) for _ in range(self.random.randint(0, most))])

    def client(self):
        reads = self.tops if self.random.random() < 0.5 else self.mask(4)
        writes = self.tops if self.random.random() < 0.4 else self.mask(4)
        return Client(self.schema, reads, self.chance.program(4, 4), writes)

    def some_papers(self, last):
        """Return some papers, ascending, none behind the last one told, and this one itself, if one is told."""
        papers = self.papers
        if last is not None:
            papers = [paper for paper in papers if flat.order_key(paper) < flat.order_key(last)]
        some = papers[::max(1, len(papers) // TRIED)]
        return some if last is None else some + [last]

    def later(self, paper, rights):
        return flat.later_ones(self.schema, rights.paths, paper, self.steps)

    def result(self, client, paper):
        read = flat.read_by(self.schema, client.reads.paths, paper)
        return flat.done(self.schema, client.program.steps, read)

    def written(self, client, paper, later):
        return flat.written_by(self.schema, client.writes.paths, self.result(client, paper), later)

    def is_lost(self, client, guard, paper, later):
        """Tell whether a client with a guard is not as if at once for a paper and a later one."""
        if guarded(guard, paper) != guarded(guard, later):
            return False
        return self.written(client, paper, later) != self.written(client, later, later)

    def paper(self, document):
        return Paper(self.schema, flat.content_of(document))


def guarded(guard, document):
    """Return the parts of a flat document that a guard covers, with their values."""
    return {part: value for part, value in document.items() if flat.covers(guard.paths, part)}


def pair_key(first, second):
    """Return that by which pairs of flat documents are ordered."""
    return (flat.order_key(first), flat.order_key(second))
