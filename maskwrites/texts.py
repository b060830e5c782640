"""Texts of paths, values, steps, programs and masks, and what has a text."""

from maskwrites.errors import BadText
from maskwrites.masks import Mask, is_mask_path
from maskwrites.names import LETTERS, sorted_names
from maskwrites.programs import MOST_DEEP, Program, are_too_many, is_step
from maskwrites.readers import Reader

FIGURES = "0123456789"
MOST_FIGURES = 60
NO_STEPS = "nothing"
NO_PATHS = "(none)"


def path_text(path):
    """Return the text of a path."""
    return ".".join(path)


def plain_text(value):
    """Return the text of a value; what kind it is of, it shows itself."""
    if isinstance(value, dict):
        return "{" + ", ".join([name + "=" + plain_text(value[name]) for name in sorted_names(value)]) + "}"
    if isinstance(value, str):
        return "'" + value
    if isinstance(value, bool):
        return "yes" if value else "no"
    return str(value)


def value_text(schema, path, value):
    """Return the text of a value that may stand at a path of a schema."""
    return plain_text(value)


def text_of_test(test):
    """Return the text of a test."""
    if test[0] == "has":
        return "has " + path_text(test[1])
    if test[0] == "is":
        return path_text(test[1]) + " is " + plain_text(test[2])
    return path_text(test[1]) + " same " + path_text(test[2])


def steps_text(schema, steps):
    """Return the text of steps, perhaps of none."""
    if not steps:
        return NO_STEPS
    return "; ".join([step_text(schema, step) for step in steps])


def step_text(schema, step):
    """Return the text of a step of a schema."""
    if step[0] == "set":
        return "set " + path_text(step[1]) + " = " + value_text(schema, step[1], step[2])
    if step[0] == "clear":
        return "clear " + path_text(step[1])
    if step[0] == "copy":
        return "copy " + path_text(step[1]) + " to " + path_text(step[2])
    text = "when " + text_of_test(step[1]) + ": " + steps_text(schema, step[2])
    if step[3]:
        text = text + " else " + steps_text(schema, step[3])
    return text + " end"


def program_text(program):
    """Return the text of a program."""
    return steps_text(program.schema, program.steps)


def mask_text(mask):
    """Return the text of a mask."""
    if len(mask) == 0:
        return NO_PATHS
    return ", ".join([path_text(path) for path in mask.paths])


def path_from(reader):
    """Read the signs of a path, and return them as a tuple, which is one of names if they are the text of a path."""
    return tuple(reader.row_of(LETTERS + ".").split("."))


def word_at(schema, path):
    """Return the word of the kind at a path, which may be () for the top; "" for what is no path."""
    if path == ():
        return "message"
    return schema.kind_at(path)[0] if schema.is_path(path) else ""


def number_from(reader):
    """Read a number."""
    figures = reader.row_of(FIGURES)
    if not figures or len(figures) > MOST_FIGURES:
        reader.refuse()
    return int(figures)


def dict_from(schema, reader, path):
    """Read a message or a map."""
    worths = {}
    reader.need("{")
    if reader.skip("}"):
        return worths
    while True:
        name = reader.row_of(LETTERS)
        reader.need("=")
        worths[name] = value_from(schema, reader, path + (name,))
        if not reader.skip(", "):
            reader.need("}")
            return worths


def flag_from(reader):
    """Read a flag."""
    if reader.skip("yes"):
        return True
    reader.need("no")
    return False


def value_from(schema, reader, path):
    """Read a value of the kind at a path, or at () of the top's."""
    word = word_at(schema, path)
    if word == "text":
        reader.need("'")
        return reader.row_of(LETTERS)
    if word == "number":
        return number_from(reader)
    if word == "flag":
        return flag_from(reader)
    if word == "":
        reader.refuse()
    return dict_from(schema, reader, path)


def asked_from(schema, reader):
    """Read a test."""
    path = path_from(reader)
    reader.need(" ")
    second = path_from(reader)
    # A field may be called like any word: only what comes behind it tells what it is.
    if path == ("has",) and reader.sees(":"):
        return ("has", second)
    reader.need(" ")
    if second == ("is",):
        return ("is", path, value_from(schema, reader, path))
    if second != ("same",):
        reader.refuse()
    return ("same", path, path_from(reader))


def when_from(schema, reader, deep):
    """Read what stands behind "when", so deep in others."""
    # A text may be far deeper than a program, and than Python can go.
    if deep == MOST_DEEP:
        reader.refuse()
    test = asked_from(schema, reader)
    reader.need(": ")
    first = steps_from(schema, reader, deep + 1)
    second = steps_from(schema, reader, deep + 1) if reader.skip(" else ") else ()
    reader.need(" end")
    return ("when", test, first, second)


def step_from(schema, reader, deep):
    """Read a step that stands so deep in "when"."""
    if reader.skip("when "):
        return when_from(schema, reader, deep)
    if reader.skip("clear "):
        return ("clear", path_from(reader))
    if reader.skip("copy "):
        path = path_from(reader)
        reader.need(" to ")
        return ("copy", path, path_from(reader))
    reader.need("set ")
    path = path_from(reader)
    reader.need(" = ")
    return ("set", path, value_from(schema, reader, path))


def steps_from(schema, reader, deep):
    """Read steps that stand so deep in "when", perhaps none."""
    if reader.skip(NO_STEPS):
        return ()
    steps = [step_from(schema, reader, deep)]
    while reader.skip("; "):
        steps.append(step_from(schema, reader, deep))
    return tuple(steps)


def read_path(text):
    """Return the path that has a text, or raise BadText."""
    path = path_from(Reader(text))
    # Where something stands behind what was read, this has not the whole text.
    if not is_mask_path(path) or path_text(path) != text:
        raise BadText(text)
    return path


def read_content(schema, text):
    """Return the content of a paper that has a text as a message's value, or raise BadText."""
    content = value_from(schema, Reader(text), ())
    if not schema.is_content(content) or plain_text(content) != text:
        raise BadText(text)
    return content


def read_program(schema, text):
    """Return the program that has a text, or raise BadText."""
    steps = steps_from(schema, Reader(text), 0)
    # What was read may still be no steps, or written otherwise: with zeros ahead, or fields that are not ascending.
    if not all([is_step(schema, step) for step in steps]) or are_too_many(steps) or steps_text(schema, steps) != text:
        raise BadText(text)
    return Program(schema, steps)


def read_mask(text):
    """Return the mask that has a text, or raise BadText."""
    if text == NO_PATHS:
        return Mask()
    reader = Reader(text)
    paths = [path_from(reader)]
    while reader.skip(", "):
        paths.append(path_from(reader))
    if not all([is_mask_path(path) for path in paths]):
        raise BadText(text)
    mask = Mask(paths)
    if mask_text(mask) != text:
        raise BadText(text)
    return mask
