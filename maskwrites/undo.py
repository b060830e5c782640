"""What of a paper must be kept, so that what a program did to it can be undone."""

from maskwrites.cases import Case
from maskwrites.grounds import Ground, map_names, names_of_steps
from maskwrites.leasts import Least, Sight
from maskwrites.masks import Mask
from maskwrites.pairs import told_same
from maskwrites.picks import holds_one, picks_of
from maskwrites.readings import covered_places
from maskwrites.states import after_steps, first_state, second_state
from maskwrites.unlikes import show_ways, ways_between


def ground_of_muddled(program, mask):
    """Return the ground for the pairs of papers that a program makes the same of."""
    schema = program.schema
    return Ground(schema, names_of_steps(schema, program.steps) + map_names(schema, mask.paths), 2)


def show_muddled(least, ground, program, mask):
    """Show the cases of unlike papers that a program makes the same of, and that have the same as a mask covers."""
    start, other = first_state(ground), second_state(ground)
    ways = ways_between(ground, start, other)
    kept = told_same(ground, Case(ground), covered_places(ground, mask), start, other)
    least.look_at([start, other])
    for first, case in after_steps(ground, program.steps, start, kept):
        if least.may_take(case):
            for second, inner in after_steps(ground, program.steps, other, case):
                inmost = told_same(ground, inner, list(range(ground.size)), first, second)
                if inmost is not None and least.may_take(inmost):
                    show_ways(least, inmost, ways)


def first_muddled(program, mask):
    """Return the least pair of unlike papers that a program and a mask do not tell apart, or None."""
    ground = ground_of_muddled(program, mask)
    least = Least(program.schema, ground)
    # Where a paper and a later one in order are such a pair, the two are one the other way round, too: so the first
    # one of the least pair comes before the second one.
    show_muddled(least, ground, program, mask)
    papers = least.papers()
    return None if papers is None else tuple(papers)


def is_muddling(program, mask):
    """Tell whether there are unlike papers that a program and a mask do not tell apart."""
    ground = ground_of_muddled(program, mask)
    sight = Sight()
    show_muddled(sight, ground, program, mask)
    return sight.is_found


def least_kept(program, paths):
    """Return the list of the least tuples of some paths that tell apart what a program makes the same of."""
    found_picks = []
    for pick in picks_of(paths):
        if not holds_one(pick, found_picks) and not is_muddling(program, Mask(pick)):
            found_picks.append(pick)
    return found_picks
