"""Which programs may change places, be done twice, or do without a step."""

from maskwrites.unlikes import least_unlike


def first_parted(first, second):
    """Return the least paper for which it is not the same to do either of two programs first, or None."""
    one, two = first.steps, second.steps
    return least_unlike(first.schema, one + two, two + one)


def first_unsteady(program):
    """Return the least paper for which doing a program twice is not the same as once, or None."""
    steps = program.steps
    return least_unlike(program.schema, steps + steps, steps)


def spare_steps(program):
    """Return the ascending list of the places of the steps each of which may be left out by itself."""
    schema, steps = program.schema, program.steps
    return [at for at in range(len(steps)) if least_unlike(schema, steps, steps[:at] + steps[at + 1:]) is None]
