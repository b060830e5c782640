"""Programs: steps that change papers, and the tests that some of them ask."""

from maskwrites.contents import clear_in, fresh, found, put_in
from maskwrites.errors import BadProgram, BadStep
from maskwrites.papers import Paper

MOST_STEPS = 16
MOST_FORKS = 6
MOST_DEEP = 3


def is_leaf(schema, value):
    """Tell whether any value is a path to a text, a number or a flag."""
    return schema.is_path(value) and schema.kind_at(value)[0] in ("text", "number", "flag")


def are_two_leaves(schema, first, second):
    """Tell whether any two values are different paths to leaves of one kind."""
    if not is_leaf(schema, first) or not is_leaf(schema, second):
        return False
    return first != second and schema.kind_at(first) == schema.kind_at(second)


def is_test(schema, value):
    """Tell whether any value is a test."""
    if not isinstance(value, tuple) or len(value) < 2:
        return False
    if value[0] == "has":
        return len(value) == 2 and schema.is_path(value[1])
    if len(value) != 3:
        return False
    if value[0] == "is":
        return is_leaf(schema, value[1]) and schema.is_value(value[1], value[2])
    return value[0] == "same" and are_two_leaves(schema, value[1], value[2])


def are_steps(schema, value):
    """Tell whether any value is a tuple of steps."""
    return isinstance(value, tuple) and all([is_step(schema, step) for step in value])


def is_step(schema, value):
    """Tell whether any value is a step."""
    if not isinstance(value, tuple) or len(value) < 2:
        return False
    if value[0] == "clear":
        return len(value) == 2 and schema.is_path(value[1])
    if value[0] == "when":
        if len(value) != 4 or not is_test(schema, value[1]):
            return False
        return are_steps(schema, value[2]) and are_steps(schema, value[3])
    if len(value) != 3:
        return False
    if value[0] == "set":
        return schema.is_path(value[1]) and schema.is_value(value[1], value[2])
    return value[0] == "copy" and are_two_leaves(schema, value[1], value[2])


def all_steps(steps):
    """Return the list of some steps and those that stand within "when"."""
    found_steps = []
    for step in steps:
        found_steps.append(step)
        if step[0] == "when":
            found_steps.extend(all_steps(step[2] + step[3]))
    return found_steps


def depth_of(steps):
    """Return how many "when" stand in one another, at most, in some steps."""
    deepest = 0
    for step in steps:
        if step[0] == "when":
            deepest = max(1 + depth_of(step[2] + step[3]), int(deepest))
    return deepest


def are_too_many(steps):
    """Tell whether steps are too many, or "when" stands too deep in them."""
    every = all_steps(steps)
    forks = [step for step in every if step[0] in ("copy", "when")]
    return len(every) > MOST_STEPS or len(forks) > MOST_FORKS or depth_of(steps) > MOST_DEEP


def holds_in(content, test):
    """Tell whether a test holds for a content."""
    value = found(content, test[1])
    if test[0] == "has":
        return value is not None
    if test[0] == "is":
        return value == test[2]
    return value == found(content, test[2])


def holds(test, paper):
    """Tell whether a test holds for a paper."""
    return holds_in(paper.content, test)


def do_step(schema, step, content):
    """Change a content by one step."""
    if step[0] == "set":
        put_in(schema, content, step[1], step[2])
    elif step[0] == "clear":
        clear_in(schema, content, step[1])
    elif step[0] == "when":
        do_steps(schema, step[2] if holds_in(content, step[1]) else step[3], content)
    else:
        value = found(content, step[1])
        if value is None:
            clear_in(schema, content, step[2])
        else:
            put_in(schema, content, step[2], value)


def do_steps(schema, steps, content):
    """Change a content by steps, one after the other."""
    for step in steps:
        do_step(schema, step, content)


class Program:
    """Steps that are done to papers of a schema, one after the other."""

    def __init__(self, schema, steps=()):
        for step in steps:
            if not is_step(schema, step):
                raise BadStep(step)
        if are_too_many(steps):
            raise BadProgram(tuple(steps))
        self._schema = schema
        self._steps = fresh(tuple(steps))

    @property
    def schema(self):
        """The schema of the papers."""
        return self._schema

    @property
    def steps(self):
        """The tuple of the steps."""
        return fresh(self._steps)

    def __eq__(self, other):
        return isinstance(other, Program) and self._schema == other._schema and self._steps == other._steps

    def __call__(self, paper):
        content = paper.content
        do_steps(self._schema, self._steps, content)
        return Paper(self._schema, content)

    def __add__(self, other):
        return Program(self._schema, self._steps + other._steps)
