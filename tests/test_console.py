"""Tests of consoles ([14])."""

import unittest

from maskwrites.alike import first_unlike
from maskwrites.changes import changed, first_outside
from maskwrites.console import Console
from maskwrites.errors import BadCommand, MaskError
from maskwrites.masks import Mask
from maskwrites.orders import first_parted
from maskwrites.papers import Paper
from maskwrites.programs import Program
from maskwrites.schemas import Schema
from maskwrites.texts import mask_text, program_text
from tests.anyvalues import any_values, schema_example
from tests.leastness import when
from tests.samples import FEW, FLAG, NUMBER, TEXT, Chance, all_papers, message, shapes

SCHEMA = Schema({
    "top": {"f": FLAG, "m": message("m"), "t": ("map", "number"), "w": TEXT, "x": NUMBER, "y": NUMBER},
    "m": {"a": NUMBER},
}, {"top": [("x", "y")]})


def content_text(value):
    """Return the text of a content, told once more."""
    if isinstance(value, dict):
        return "{" + ", ".join([f"{name}={content_text(value[name])}" for name in sorted(value)]) + "}"
    if isinstance(value, str):
        return "'" + value
    return {False: "no", True: "yes"}[value] if isinstance(value, bool) else str(value)


class ConsoleTest(unittest.TestCase):
    def check(self, console, rows):
        for command, text in rows:
            self.assertEqual(console(command), text, command)

    def check_bad(self, console, value):
        before = [console("show one"), console("show two")]
        with self.assertRaises(BadCommand) as caught:
            console(value)
        self.assertIs(caught.exception.command, value)
        self.assertIsInstance(caught.exception, MaskError)
        self.assertEqual([console("show one"), console("show two")], before)

    def test_the_example_of_the_document(self):
        console = Console(Schema({"top": {"x": NUMBER, "y": NUMBER}}, {"top": [("x", "y")]}))
        self.check(console, [
            ("one set x = 1", "ok"), ("two set y = 1", "ok"), ("alike", "differ {}"), ("run one {y=3}", "{x=1}"),
            ("parted", "parted {}"), ("changed two", "x, y"),
        ])

    def test_at_first(self):
        self.check(Console(SCHEMA), [
            ("show one", "nothing"), ("show two", "nothing"), ("alike", "alike"), ("parted", "any order"),
            ("changed one", "(none)"), ("changed two", "(none)"), ("outside one (none)", "within"),
            ("outside two x, y", "within"), ("run one {}", "{}"), ("run two {x=3}", "{x=3}"),
        ])

    def test_each_command(self):
        console = Console(SCHEMA)
        self.check(console, [
            ("one when has x: clear t else set m = {a=5} end", "ok"), ("two copy m.a to x; clear w", "ok"),
            ("show one", "when has x: clear t else set m = {a=5} end"), ("show two", "copy m.a to x; clear w"),
            ("run one {t={a=1, k=2}, x=0}", "{x=0}"), ("run one {t={a=1}, w='}", "{m={a=5}, t={a=1}, w='}"),
            ("run two {f=no, m={a=7}, w='ab, y=1}", "{f=no, m={a=7}, x=7}"), ("run two {m={}}", "{m={}}"),
            ("alike", "differ {}"), ("parted", "parted {}"), ("changed one", "m.a, t"), ("changed two", "w, x, y"),
            ("outside one m, t", "within"), ("outside one m", "outside {t={a=0}, x=0}"), ("outside one (none)", "outside {}"),
            ("outside two w, x, y", "within"), ("outside two w, x", "outside {m={a=0}, y=0}"), ("outside two t.k", "outside {w='}"),
            ("two when has x: clear t else set m = {a=5} end", "ok"), ("alike", "alike"), ("parted", "any order"),
            ("one nothing", "ok"), ("show one", "nothing"), ("show two", "when has x: clear t else set m = {a=5} end"),
            ("alike", "differ {}"), ("parted", "any order"), ("two clear f", "ok"), ("alike", "differ {f=no}"),
        ])

    def test_by_chance_as_the_functions(self):
        for number in range(120):
            schema, _, names = shapes()[number % len(shapes())]
            chance = Chance(number, schema, FEW, names[:2])
            one, two = chance.program(3), chance.program(3)
            console = Console(schema)
            self.check(console, [("one " + program_text(one), "ok"), ("two " + program_text(two), "ok")])
            self.check(console, [("show one", program_text(one)), ("show two", program_text(two))])
            self.check(console, [("changed one", mask_text(changed(one))), ("changed two", mask_text(changed(two)))])
            self.check_paper(console("alike"), "differ", first_unlike(one, two), "alike")
            self.check_paper(console("parted"), "parted", first_parted(one, two), "any order")
            mask = Mask([chance.random.choice(chance.paths) for _ in range(number % 4)])
            for word, program in (("one", one), ("two", two)):
                told = console(f"outside {word} {mask_text(mask)}")
                self.check_paper(told, "outside", first_outside(program, mask), "within")
                paper = chance.random.choice(all_papers(schema, FEW, names[:1]))
                told = console(f"run {word} {content_text(paper.content)}")
                self.assertEqual(told, content_text(program(paper).content))

    def check_paper(self, told, word, paper, none):
        self.assertEqual(told, none if paper is None else word + " " + content_text(paper.content))

    def test_any_values(self):
        console = Console(SCHEMA)
        console("one set x = 1")
        for value in any_values():
            self.check_bad(console, value)

    def test_what_is_no_command(self):
        console = Console(SCHEMA)
        console("one set x = 1")
        for command in (
            "", " ", "one", "one ", "two", "One nothing", "ONE nothing", "three nothing", "one  nothing", "one nothing ",
            "one set x = 1;", "one set q = 1", "one set x = 01", " one nothing", "one\nnothing", "onenothing", "one two",
            "one " + "; ".join(["clear x"] * 17), "two when has x: clear x", "two copy x to w",
            "run", "run ", "run one", "run one ", "run {}", "run one{}", "run one  {}", "run one {} ", "run three {}",
            "run one {x=1,y=2}", "run one {x=1, y=2}", "run one {y=1, f=no}", "run one {q=1}", "run one {t={}}", "run one {x=01}",
            "run one {m={b=1}}", "run one 5", "run one 'a", "run one {x=yes}", "run one {x=1}}", "run onee {}", "runone {}",
            "run two {w='A}", "run one {x=1, x=1}", "run one {abcdefghi=1}", "run one {x=" + "9" * 61 + "}", "run",
            "alike ", " alike", "alike one", "alike two", "Alike", "parted ", "parted one", "parted {}", "any order",
            "changed", "changed ", "changed three", "changed one ", "changed one x", "changed  one", "changedone", "changed one, two",
            "outside", "outside one", "outside one ", "outside (none)", "outside one  x", "outside one q", "outside one x, q",
            "outside one t.k.k", "outside one x.k", "outside one y, x", "outside one x,y", "outside one (none), x",
            "outside three x", "outside one x ", "outside one m, m.a",
            "show", "show ", "show three", "show one ", "show one x", "show two two", "showone", "show  one",
            "undo", "nothing", "set x = 1", "help", "quit", "one: nothing", "\u00f6ne nothing", "one nothing\n",
        ):
            self.check_bad(console, command)
        self.check(console, [("show one", "set x = 1"), ("show two", "nothing")])

    def test_commands_that_are_changed_a_little(self):
        good = {"one nothing", "two nothing", "alike", "parted", "show one", "show two", "changed one", "changed two",
                "run one {}", "run two {}", "outside one x", "outside two x", "outside one (none)", "outside two (none)"}
        signs = " onetwx{}(),"
        for command in sorted(good):
            for at in range(len(command) + 1):
                rows = [command[:at] + command[at + 1:]] + [command[:at] + sign + command[at + more:] for sign in signs for more in (0, 1)]
                for other in rows:
                    console = Console(SCHEMA)
                    if other in good or other in {f"outside {word} {path}" for word in ("one", "two") for path in "fmtwxy"}:
                        self.assertIs(type(console(other)), str)
                    else:
                        self.check_bad(console, other)

    def test_two_consoles_share_nothing(self):
        first, second = Console(SCHEMA), Console(schema=SCHEMA)
        self.assertEqual(first(command="one set x = 1"), "ok")
        self.check(second, [("show one", "nothing"), ("alike", "alike")])
        self.check(second, [("one clear f", "ok")])
        self.check(first, [("show one", "set x = 1"), ("show two", "nothing")])

    def test_a_large_schema_and_names_like_words(self):
        console = Console(Schema(*schema_example()))
        self.check(console, [
            ("one set m.n = {c={b=1, k=2}, d='ab, t=3}", "ok"), ("changed one", "m.e, m.g, m.n.c, m.n.d, m.n.t, t, w"),
            ("run one {m={a=1, e={}}, x=7}", "{m={a=1, n={c={b=1, k=2}, d='ab, t=3}}, x=7}"),
            ("outside one m", "outside {t={a='}}"), ("two set m.n.c = {b=1}", "ok"), ("parted", "parted {}"),
        ])
        words = Schema({"top": {name: FLAG for name in ("one", "two", "alike", "run", "show", "end")}})
        console = Console(words)
        self.check(console, [
            ("one when has one: clear two else set alike = yes end", "ok"), ("run one {one=no, two=yes}", "{one=no}"),
            ("two clear one; clear two", "ok"), ("run two {one=no, run=no}", "{run=no}"), ("changed one", "alike, two"),
            ("outside one two", "outside {}"), ("alike", "differ {}"), ("parted", "parted {one=no}"),
        ])
        program = Program(words, (when(("has", ("one",)), [("clear", ("two",))], [("set", ("alike",), True)]),))
        self.assertEqual(console("show one"), program_text(program))
        self.assertEqual(program(Paper(words, {"one": False, "two": True})).content, {"one": False})


if __name__ == "__main__":
    unittest.main()
