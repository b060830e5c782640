"""The document's points told once more, over flat documents: dicts from paths to values, None for messages.

Nothing here uses the package but a schema's own questions, so that tests may compare both.
"""


def is_message(schema, path):
    return schema.kind_at(path)[0] == "message"


def begins(path, above):
    return path[:len(above)] == above


def parts_of(paper):
    """Return a paper as a flat document."""
    flat = {}

    def walk(content, above):
        for name, value in content.items():
            path = above + (name,)
            if not isinstance(value, dict):
                flat[path] = value
            else:
                if is_message(paper.schema, path):
                    flat[path] = None
                walk(value, path)

    walk(paper.content, ())
    return flat


def content_of(flat):
    """Return the content of a flat document."""
    content = {}
    for path in sorted(flat):
        inner = content
        for name in path[:-1]:
            inner = inner.setdefault(name, {})
        inner[path[-1]] = {} if flat[path] is None else flat[path]
    return content


def is_set(flat, path):
    return any(begins(part, path) for part in flat)


def cleared(flat, path):
    return {part: value for part, value in flat.items() if not begins(part, path)}


def put(schema, flat, path, value):
    """Return a flat document in which a path is set."""
    flat = dict(flat)
    for many in range(1, len(path) + 1):
        for mate in schema.mates(path[:many]):
            flat = cleared(flat, mate)
    for many in range(1, len(path)):
        if is_message(schema, path[:many]):
            flat[path[:many]] = None
    flat = cleared(flat, path)

    def fill(at, worth):
        if not isinstance(worth, dict):
            flat[at] = worth
            return
        if is_message(schema, at):
            flat[at] = None
        for name in worth:
            fill(at + (name,), worth[name])

    fill(path, value)
    return flat


def comes_out(flat, test):
    """Return whether a test, or a row's test of more names, holds for a flat document."""
    if test[0] == "has":
        return is_set(flat, test[1])
    if test[0] == "is":
        return test[1] in flat and flat[test[1]] == test[2]
    if test[0] == "same":
        return flat.get(test[1]) == flat.get(test[2])
    return any(part[:-1] == test[1] and part[-1] not in test[2] for part in flat)


def done(schema, steps, flat):
    """Return what steps make of a flat document."""
    for step in steps:
        if step[0] == "set":
            flat = put(schema, flat, step[1], step[2])
        elif step[0] == "clear":
            flat = cleared(flat, step[1])
        elif step[0] == "copy":
            value = flat.get(step[1])
            flat = cleared(flat, step[2]) if value is None else put(schema, flat, step[2], value)
        else:
            flat = done(schema, step[2] if comes_out(flat, step[1]) else step[3], flat)
    return flat


def value_key(value):
    return (len(value), value) if isinstance(value, str) else value


def order_key(flat):
    """Return that by which documents of one schema are ordered."""
    parts = sorted(flat)
    return (len(parts), parts, [value_key(flat[part]) for part in parts if flat[part] is not None])


def changed_paths(schema, before, after):
    """Return the set of the paths that are changed from one document to another one."""
    paths = set()
    for part in set(before) ^ set(after):
        below = [other for other in after if begins(other, part) and other != part]
        if part in before or after[part] is not None or not below:
            paths.add(part)
    return paths | {part for part in set(before) & set(after) if before[part] != after[part]}


def rows_for(rows, flat):
    """Return the places of the rows that are for a flat document."""
    return [
        place for place, (tests, _) in enumerate(rows)
        if all(comes_out(flat, test) == answer for test, answer in tests)
    ]


def result_by(schema, result, flat):
    """Return what a row's result makes of a flat document."""
    told = dict(result)
    unset = [path for path in told if told[path] == ("unset",)]
    made = {
        part: value for part, value in flat.items()
        if part not in told and not any(begins(part, path) for path in unset)
    }
    for path, source in result:
        if source[0] == "value":
            made[path] = source[1]
        elif source[0] == "made":
            made[path] = None
        elif source[0] == "from" and source[1] in flat:
            made[path] = flat[source[1]]
    for part in list(made):
        for many in range(1, len(part)):
            if is_message(schema, part[:many]):
                made[part[:many]] = None
    return made


def is_right(schema, steps, rows, flats):
    """Tell whether rows are right for some flat documents."""
    for flat in flats:
        places = rows_for(rows, flat)
        if len(places) != 1 or result_by(schema, rows[places[0]][1], flat) != done(schema, steps, flat):
            return False
    return True


def covers(paths, path):
    """Tell whether a path begins with one of some paths."""
    return any(begins(path, above) for above in paths)


def read_by(schema, paths, flat):
    """Return what is read of a flat document: the parts that are covered, and the messages above those."""
    read = {part: value for part, value in flat.items() if covers(paths, part)}
    for part in list(read):
        for many in range(1, len(part)):
            if is_message(schema, part[:many]):
                read[part[:many]] = None
    return read


def value_in(schema, flat, path):
    """Return the value at a path that is set: of a message or a map its content."""
    if path in flat and flat[path] is not None:
        return flat[path]
    return content_of({part[len(path):]: value for part, value in flat.items() if begins(part, path) and part != path})


def written_by(schema, paths, result, flat):
    """Return a flat document after a result was written back into it."""
    for path in sorted(paths):
        if not is_set(result, path):
            flat = cleared(flat, path)
    for path in sorted(paths):
        if is_set(result, path):
            flat = put(schema, flat, path, value_in(schema, result, path))
    return flat


def later_ones(schema, paths, flat, steps):
    """Return all flat documents that some steps make of one whose paths are covered, one step after the other."""
    within = [step for step in steps if covers(paths, step[1])]
    seen = {frozenset(flat.items()): flat}
    todo = [flat]
    while todo:
        before = todo.pop()
        for step in within:
            after = done(schema, (step,), before)
            if frozenset(after.items()) not in seen:
                seen[frozenset(after.items())] = after
                todo.append(after)
    return list(seen.values())
