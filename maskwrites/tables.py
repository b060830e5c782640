"""Tables of all that a program does."""

from maskwrites.cases import Case
from maskwrites.contents import content_of, found, part_rows
from maskwrites.grounds import Ground, names_of_steps
from maskwrites.leasts import is_possible
from maskwrites.masks import begins_with_one
from maskwrites.papers import Paper
from maskwrites.programs import holds_in
from maskwrites.rows import are_rows, literal_of, names_of_rows, result_of, state_of, test_of
from maskwrites.states import UNSET, after_steps, first_state
from maskwrites.unlikes import ways_between


def table(program):
    """Return a right table of a program."""
    ground = Ground(program.schema, names_of_steps(program.schema, program.steps))
    rows = []
    for state, case in after_steps(ground, program.steps, first_state(ground), Case(ground)):
        tests = tuple([(test_of(ground, literal), answer) for literal, answer in case.asked])
        rows.append((tests, result_of(ground, state)))
    return rows


def open_rows(case, rows):
    """Return those of the rows, lists of pairs of literal and answer, that may be for a paper of a case.

    What comes out so for all papers of the case is left out of them.
    """
    left = []
    for row in rows:
        pairs = []
        for literal, answer in row:
            told = case.judge(literal)
            if told is None:
                pairs.append((literal, answer))
            elif told != answer:
                break
        else:
            left.append(pairs)
    return left


def most_asked(rows):
    """Return the literal that most of the rows ask."""
    many = {}
    best = rows[0][0][0]
    for row in rows:
        for literal, _ in row:
            many[literal] = many.get(literal, 0) + 1
            if many[literal] > many[best]:
                best = literal
    return best


def rarer_answer(rows, literal):
    """Return the answer of a literal that is wrong for as many rows as can be."""
    answers = [answer for row in rows for asked, answer in row if asked == literal]
    return answers.count(False) > answers.count(True)


def is_row_possible(case, row):
    """Tell whether a row is for a paper of a case."""
    inner = case.told_all(row)
    return inner is not None and is_possible(inner)


def is_one_full(case, rows):
    """Tell whether just one of the open rows of a case is for each paper of it; None if it has to be parted."""
    if not rows:
        return not is_possible(case)
    for place, row in enumerate(rows):
        if not row:
            # This one is for all papers of the case, so that no other one may be for any.
            others = rows[:place] + rows[place + 1:]
            return True not in [is_row_possible(case, other) for other in others]
    return None


def are_one_each(case, rows):
    """Tell whether just one of some rows is for each paper of a case."""
    todo = [(case, rows)]
    while todo:
        inner, some = todo.pop()
        left = open_rows(inner, some)
        full = is_one_full(inner, left)
        if full is False:
            return False
        if full is None:
            literal = most_asked(left)
            first = rarer_answer(left, literal)
            # The last one is looked at first: with fewer rows it shows sooner where none is for a paper.
            cases = [inner.told(literal, answer) for answer in (not first, first)]
            todo.extend([(told, left) for told in cases if told is not None])
    return True


def makes_other(ground, steps, pairs, result):
    """Tell whether steps make something else than a result of some paper that a row is for."""
    case = Case(ground).told_all(pairs)
    if case is None:
        return False
    told = state_of(ground, result)
    for state, inner in after_steps(ground, steps, first_state(ground), case):
        for way in ways_between(ground, state, told):
            if is_row_possible(inner, way):
                return True
    return False


def is_table(program, value):
    """Tell whether any value is a right table of a program."""
    schema, steps = program.schema, program.steps
    if not are_rows(schema, value):
        return False
    ground = Ground(schema, names_of_steps(schema, steps) + names_of_rows(schema, value))
    rows = [[(literal_of(ground, test), answer) for test, answer in tests] for tests, _ in value]
    if not are_one_each(Case(ground), rows):
        return False
    for pairs, row in zip(rows, value):
        if makes_other(ground, steps, pairs, row[1]):
            return False
    return True


def comes_out(content, test):
    """Tell whether a test of a row holds for a content."""
    if test[0] != "more":
        return holds_in(content, test)
    names = found(content, test[1])
    return names is not None and any([name not in test[2] for name in names])


def row_for(table, paper):
    """Return the place of the first row of a table that is for a paper, or None."""
    content = paper.content
    for place, row in enumerate(table):
        if all([comes_out(content, test) == answer for test, answer in row[0]]):
            return place
    return None


def told_rows(content, result):
    """Return the pairs of path and value for the parts that a result tells of a content; a message's is None."""
    rows = []
    for path, source in result:
        if source[0] == "made":
            rows.append((path, None))
        elif source[0] == "value":
            rows.append((path, source[1]))
        elif source != UNSET and found(content, source[1]) is not None:
            rows.append((path, found(content, source[1])))
    return rows


def made_by(table, paper):
    """Return the result of the first row of a table that is for a paper."""
    result = table[row_for(table, paper)][1]
    content = paper.content
    told = {path: True for path, _ in result}
    unset = {path: True for path, source in result if source == UNSET}
    rows = [row for row in part_rows(paper.schema, content, ()) if row[0] not in told]
    kept = [row for row in rows if not begins_with_one(row[0], unset)]
    return Paper(paper.schema, content_of(kept + told_rows(content, result)))
