"""What tests of least papers share: comparing with all small papers, tried one by one."""

import time
import unittest

from tests import flat
from tests.samples import FEW, Chance, all_papers, shapes

SECONDS = 60


def when(test, first=(), second=()):
    return ("when", test, tuple(first), tuple(second))


class LeastTestCase(unittest.TestCase):
    def check_least(self, told, is_so, papers):
        """Check that a told paper, or None, is the least one of which something is so, by ascending papers."""
        if told is not None:
            self.assertTrue(is_so(told), told.content)
        for paper in papers:
            if told is not None and not paper < told:
                break
            self.assertFalse(is_so(paper), (paper.content, None if told is None else told.content))

    def check_content(self, told, content):
        self.assertIsNotNone(told)
        self.assertEqual(told.content, content)

    def check_soon(self, call, *arguments):
        before = time.perf_counter()
        told = call(*arguments)
        self.assertLess(time.perf_counter() - before, SECONDS)
        return told


def chances(many, first=0):
    """Return rows of a schema, steps by chance over it, and its small papers, ascending, that are to be tried."""
    rows = []
    for number in range(first, first + many):
        schema, values, names = shapes()[number % len(shapes())]
        papers = all_papers(schema, values, names)
        if len(papers) > 3000:
            papers = all_papers(schema, FEW, names[:2])
        # The steps name some of the values and names, so that there are some more that they don't.
        chance = Chance(number, schema, FEW, (names[:1], names[:2], names[1:2])[number % 3])
        papers = sorted(papers, key=lambda paper: flat.order_key(flat.parts_of(paper)))
        rows.append((schema, chance, papers[::max(1, len(papers) // 250)]))
    return rows
