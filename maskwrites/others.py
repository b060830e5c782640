"""Others who change papers meanwhile, and whether a client is as if it had done all at once."""

from maskwrites.contents import clear_in, fresh, found, put_in
from maskwrites.errors import Lost
from maskwrites.masks import Mask
from maskwrites.pairs import least_slipped


def change_by_others(schema, content, path, goal):
    """Set a path in a content, which others have the right to, to what a goal has there."""
    value = found(goal, path)
    # What is unset in the end may have been anything meanwhile.
    put_in(schema, content, path, 0 if value is None else value)
    if value is None:
        clear_in(schema, content, path)


def is_later(paper, rights, later):
    """Tell whether a paper is a later one of another one for rights."""
    goal = later.content
    seen = [paper.content]
    todo = list(seen)
    while todo:
        content = todo.pop()
        for path in rights.paths:
            # pairs.py tells why setting is all that counts.
            told = fresh(content)
            change_by_others(paper.schema, told, path, goal)
            if told not in seen:
                seen.append(told)
                todo.append(told)
    return goal in seen


def first_lost(client, rights):
    """Return the least pair for which a client is not as if at once, or None."""
    return least_slipped(client, rights, Mask())


def need_safe(client, rights):
    """Raise Lost with the least pair for which a client is not as if at once, if there is one."""
    pair = first_lost(client, rights)
    if pair is not None:
        raise Lost(pair)
