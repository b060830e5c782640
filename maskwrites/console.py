"""A console: two programs of a schema, and commands about them."""

from maskwrites.alike import first_unlike
from maskwrites.changes import changed, first_outside
from maskwrites.clients import is_mask_of
from maskwrites.errors import BadCommand, BadText
from maskwrites.orders import first_parted
from maskwrites.papers import Paper
from maskwrites.programs import Program
from maskwrites.texts import mask_text, plain_text, program_text, read_content, read_mask, read_program


def paper_text(word, paper, none):
    """Return a word and the text of a paper's content, or a text for no paper."""
    return none if paper is None else word + " " + plain_text(paper.content)


class Console:
    """Two programs, named one and two, that commands put and ask about."""

    def __init__(self, schema):
        self._schema = schema
        self._programs = {"one": Program(schema), "two": Program(schema)}

    def __call__(self, command):
        if not isinstance(command, str):
            raise BadCommand(command)
        word = command.split(" ")[0]
        behind = command[len(word):]
        try:
            told = self._answer(word, behind)
        except BadText:
            raise BadCommand(command)
        if told is None:
            raise BadCommand(command)
        return told

    def _answer(self, word, rest):
        """Return the text for a command by its first word and what stands behind it, None if it is no command.

        If anything stands behind it, it begins with a blank.
        """
        if word in ("one", "two"):
            return self._put(word, rest)
        if word in ("alike", "parted"):
            return self._compare(word) if rest == "" else None
        if rest[1:4] not in self._programs:
            return None
        return self._tell(word, self._programs[rest[1:4]], rest[4:])

    def _put(self, word, rest):
        """Put a program, by its text behind a blank."""
        self._programs[word] = read_program(self._schema, rest[1:])
        return "ok"

    def _compare(self, word):
        """Return what there is to tell of both programs."""
        one, two = self._programs["one"], self._programs["two"]
        if word == "alike":
            return paper_text("differ", first_unlike(one, two), "alike")
        return paper_text("parted", first_parted(one, two), "any order")

    def _tell(self, word, program, rest):
        """Return what there is to tell of a program, by what stands behind its name; None if that is no command."""
        if rest == "":
            if word == "changed":
                return mask_text(changed(program))
            return program_text(program) if word == "show" else None
        if rest[0] != " ":
            return None
        if word == "run":
            paper = Paper(self._schema, read_content(self._schema, rest[1:]))
            return plain_text(program(paper).content)
        return self._tell_outside(program, read_mask(rest[1:])) if word == "outside" else None

    def _tell_outside(self, program, mask):
        """Return what a program changes outside of a mask, None if that is none of the schema's."""
        if not is_mask_of(self._schema, mask):
            return None
        return paper_text("outside", first_outside(program, mask), "within")
