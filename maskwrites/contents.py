"""Contents of papers as dicts within dicts: reading them, changing them, and telling their parts."""

from maskwrites.names import sorted_names


def fresh(value):
    """Return a value, in tuples and dicts perhaps, that shares no dict with the one that is given."""
    if isinstance(value, tuple):
        return tuple([fresh(part) for part in value])
    if isinstance(value, dict):
        # In one order, so that the order of what was handed in shows nowhere.
        return {name: fresh(value[name]) for name in sorted_names(value)}
    return value


def found(content, path):
    """Return what stands at a path, or at () the content itself; None where nothing stands."""
    inner = content
    for name in path:
        if name not in inner:
            return None
        inner = inner[name]
    return inner


def clear_in(schema, content, path):
    """Clear a path in a content."""
    above = found(content, path[:-1])
    if above is None or path[-1] not in above:
        return
    del above[path[-1]]
    # A map without names is unset, a message without fields is not.
    if not above and len(path) > 1 and schema.kind_at(path[:-1])[0] == "map":
        clear_in(schema, content, path[:-1])


def put_in(schema, content, path, value):
    """Set a path in a content to a value."""
    for many in range(1, len(path) + 1):
        for mate in schema.mates(path[:many]):
            clear_in(schema, content, mate)
    above = content
    for name in path[:-1]:
        above = above.setdefault(name, {})
    above[path[-1]] = fresh(value)


def part_rows(schema, content, above):
    """Return the ascending pairs of path and value for the parts of a message at a path; a message's is None."""
    rows = []
    for field in sorted_names(content):
        path = above + (field,)
        value = content[field]
        if not isinstance(value, dict):
            rows.append((path, value))
        elif schema.kind_at(path)[0] == "message":
            rows.append((path, None))
            rows.extend(part_rows(schema, value, path))
        else:
            rows.extend([(path + (name,), value[name]) for name in sorted_names(value)])
    return rows


def content_of(rows):
    """Return the content with the parts of some rows, and the messages above them."""
    content = {}
    for path, value in rows:
        above = content
        for name in path[:-1]:
            above = above.setdefault(name, {})
        if value is None:
            above.setdefault(path[-1], {})
        else:
            above[path[-1]] = value
    return content
