"""Tests of texts, and of reading them ([13], the heading of texts)."""

import re
import unittest

from maskwrites.errors import BadText, MaskError
from maskwrites.masks import Mask
from maskwrites.programs import Program
from maskwrites.schemas import Schema
from maskwrites.texts import (
    mask_text, path_text, program_text, read_mask, read_path, read_program, step_text, value_text,
)
from tests.anyvalues import any_values, schema_example
from tests.leastness import when
from tests.samples import FEW, FLAG, MORE, NUMBER, TEXT, Chance, all_papers, message, shapes

SMALL = Schema({
    "top": {"f": FLAG, "m": message("m"), "t": ("map", "number"), "w": TEXT, "x": NUMBER, "y": NUMBER},
    "m": {"a": NUMBER},
})
WORDS = [
    Schema({"top": {name: NUMBER for name in ("set", "to", "end", "is", "has", "same")}}),
    Schema({"top": {name: FLAG for name in ("yes", "no", "when", "else", "nothing", "clear")}}),
    Schema({"top": {"copy": message("nothing"), "top": TEXT, "to": ("map", "flag"), "end": message("is")},
            "nothing": {"is": TEXT, "end": FLAG, "has": TEXT}, "is": {"to": TEXT, "yes": FLAG, "no": ("map", "text")}}),
    Schema({"top": {"is": TEXT, "same": TEXT, "has": TEXT, "none": message("tops")}, "tops": {"same": TEXT, "is": FLAG}}),
]


class TextTestCase(unittest.TestCase):
    def check_bad(self, value, call, *arguments):
        with self.assertRaises(BadText) as caught:
            call(*arguments, value)
        self.assertIs(caught.exception.value, value)
        self.assertIsInstance(caught.exception, MaskError)

    def is_read(self, call, *arguments):
        """Tell whether a text is read; if not, BadText has the very text."""
        try:
            call(*arguments)
        except BadText as error:
            self.assertIs(error.value, arguments[-1])
            return False
        return True


class WrittenTest(TextTestCase):
    def test_the_examples_of_the_document(self):
        schema = Schema({"top": {"x": NUMBER, "w": TEXT}})
        program = Program(schema, (("when", ("is", ("x",), 5), (("set", ("w",), "ab"),), ()), ("clear", ("x",))))
        self.assertEqual(path_text(("m", "a")), "m.a")
        self.assertEqual(program_text(program), "when x is 5: set w = 'ab end; clear x")
        self.assertEqual(read_program(schema, program_text(program)), program)

    def test_values(self):
        schema = Schema(*schema_example())
        rows = [
            (("w",), "", "'"), (("w",), "ab", "'ab"), (("w",), "yes", "'yes"), (("x",), 0, "0"), (("x",), 120, "120"),
            (("x",), 10 ** 60 - 1, "9" * 60), (("f",), True, "yes"), (("f",), False, "no"), (("t", "k"), "z", "'z"),
            (("t",), {"b": "a", "aa": "", "a": "c"}, "{a='c, aa=', b='a}"), (("m",), {}, "{}"),
            (("m",), {"b": True, "a": 1}, "{a=1, b=yes}"), (("m", "g"), {"k": False}, "{k=no}"),
            (("m",), {"n": {"t": 1, "c": {"z": 0, "b": 5}}, "b": False}, "{b=no, n={c={b=5, z=0}, t=1}}"),
            (("m",), {"e": {}}, "{e={}}"), (("m", "n"), {"c": {"k": 1}}, "{c={k=1}}"),
        ]
        for path, value, text in rows:
            self.assertEqual(value_text(schema, path, value), text)
            step = ("set", path, value)
            self.assertEqual(step_text(schema, step), "set " + path_text(path) + " = " + text)
            self.assertEqual(read_program(schema, step_text(schema, step)).steps, (step,))

    def test_steps_and_tests(self):
        schema = Schema(*schema_example())
        clear, copy = ("clear", ("m", "n", "c")), ("copy", ("x",), ("m", "a"))
        has = ("has", ("t",))
        rows = [
            (clear, "clear m.n.c"), (copy, "copy x to m.a"), (("set", ("f",), True), "set f = yes"),
            (when(has), "when has t: nothing end"), (when(has, [clear]), "when has t: clear m.n.c end"),
            (when(has, [], [clear]), "when has t: nothing else clear m.n.c end"),
            (when(("is", ("f",), True), [clear, copy], [copy, clear]),
             "when f is yes: clear m.n.c; copy x to m.a else copy x to m.a; clear m.n.c end"),
            (when(("same", ("x",), ("m", "n", "t")), [when(has, [copy], [clear])], [when(has)]),
             "when x same m.n.t: when has t: copy x to m.a else clear m.n.c end else when has t: nothing end end"),
            (when(("is", ("w",), ""), [("set", ("w",), "end")]), "when w is ': set w = 'end end"),
        ]
        for step, text in rows:
            self.assertEqual(step_text(schema, step), text)
            self.assertEqual(read_program(schema, text).steps, (step,))
            both = Program(schema, (step, clear))
            self.assertEqual(program_text(both), text + "; clear m.n.c")
            self.assertEqual(read_program(schema, text + "; clear m.n.c"), both)

    def test_nothing(self):
        self.assertEqual(program_text(Program(SMALL)), "nothing")
        self.assertEqual(read_program(SMALL, "nothing"), Program(SMALL))
        self.assertEqual(mask_text(Mask()), "(none)")
        self.assertEqual(read_mask("(none)"), Mask())

    def test_paths_and_masks(self):
        rows = [([("x",)], "x"), ([("m", "a"), ("x",)], "m.a, x"), ([("b",), ("aa",), ("a",)], "a, aa, b"),
                ([("m",), ("m", "a")], "m"), ([("ma",), ("m", "z"), ("m", "b", "c", "d")], "m.b.c.d, m.z, ma")]
        for paths, text in rows:
            self.assertEqual(mask_text(Mask(paths)), text)
            self.assertEqual(read_mask(text), Mask(paths))
        for path in (("x",), ("abcdefgh", "a", "b"), ("to",) * 7):
            self.assertEqual(read_path(path_text(path)), path)

    def test_arguments_by_name(self):
        step = ("set", ("x",), 1)
        program = Program(SMALL, (step,))
        self.assertEqual(path_text(path=("x",)), "x")
        self.assertEqual(value_text(value=1, path=("x",), schema=SMALL), "1")
        self.assertEqual(step_text(step=step, schema=SMALL), "set x = 1")
        self.assertEqual(program_text(program=program), "set x = 1")
        self.assertEqual(mask_text(mask=Mask([("x",)])), "x")
        self.assertEqual(read_path(text="x"), ("x",))
        self.assertEqual(read_program(text="set x = 1", schema=SMALL), program)
        self.assertEqual(read_mask(text="x"), Mask([("x",)]))


class ReadTest(TextTestCase):
    def test_programs_by_chance(self):
        for number in range(300):
            schema, values, names = shapes()[number % len(shapes())]
            program = Chance(number, schema, FEW, names[:3]).program(6)
            text = program_text(program)
            self.assertEqual(read_program(schema, text), program)
            self.assertEqual(program_text(read_program(schema, text)), text)

    def test_fields_that_are_named_like_words(self):
        for number in range(400):
            schema = WORDS[number % len(WORDS)]
            program = Chance(number, schema, MORE, ("to", "is", "has")[:1 + number % 3]).program(6)
            self.assertEqual(read_program(schema, program_text(program)), program, program_text(program))
        rows = [
            (WORDS[0], "when has has: nothing end"), (WORDS[0], "when has is 5: copy to to end end"),
            (WORDS[0], "when is is 5: clear end else clear is end"), (WORDS[0], "when same same has: nothing end"),
            (WORDS[0], "when has same is: set end = 1 end"), (WORDS[0], "when is same same: set is = 1 end"),
            (WORDS[1], "when yes is no: set no = yes end"), (WORDS[1], "when has nothing: clear nothing end"),
            (WORDS[1], "when has else: clear else else clear else end"), (WORDS[1], "clear when; clear clear"),
            (WORDS[2], "set copy = {end=yes, has='has, is='is}"), (WORDS[2], "copy copy.is to end.to"),
            (WORDS[2], "set end = {no={end='end, yes='}, to='to, yes=no}; clear to.to"),
            (WORDS[3], "when has is 'is: set is = 'has end"), (WORDS[3], "when same is 'same: clear has end"),
        ]
        for schema, text in rows:
            self.assertEqual(program_text(read_program(schema, text)), text)

    def test_masks_and_paths_by_chance(self):
        for number in range(200):
            schema, _, names = shapes()[number % len(shapes())]
            chance = Chance(number, schema, FEW, names)
            mask = Mask([chance.random.choice(chance.paths) for _ in range(number % 5)])
            self.assertEqual(read_mask(mask_text(mask)), mask)
            for path in mask.paths:
                self.assertEqual(read_path(path_text(path)), path)

    def test_any_values(self):
        for value in any_values():
            for call, arguments, write in ((read_path, (), path_text), (read_mask, (), mask_text),
                                           (read_program, (SMALL,), program_text)):
                if self.is_read(call, *arguments, value):
                    self.assertEqual(write(call(*arguments, value)), value)
            if not isinstance(value, str):
                self.check_bad(value, read_path)
                self.check_bad(value, read_mask)
                self.check_bad(value, read_program, SMALL)
        self.assertEqual([value for value in any_values() if self.is_read(read_program, SMALL, value)], [])

    def test_texts_that_are_none(self):
        for text in ("", " ", ".", "a.", ".a", "a..b", "a b", " a", "a ", "A", "a1", "abcdefghi", "x.abcdefghi", "'a", "a,b",
                     "(none)", "a\n", "a, b", "\u00e4", "\u0430", "a.b.", "a.\n", "=", "{}"):
            self.check_bad(text, read_path)
        for text in ("", " ", "(none) ", "()", "x,y", "x,  y", "x, ", ", x", "y, x", "x, x", "x, x.a", "m, m.a", "x;y",
                     "aa, a", "b, aa", "a.", "abcdefghi", "(none), x", "x, (none)", "x, y ", "\u00e4", "X"):
            self.check_bad(text, read_mask)
        for text in ("", " ", "nothing ", " nothing", "nothing; nothing", "nothing; clear x", "clear x; nothing", "clear q",
                     "clear", "clear ", "clear x;clear y", "clear x ; clear y", "clear  x", "Clear x", "set x", "set x = ",
                     "set x =1", "set x= 1", "set x = 01", "set x = 00", "set x = -1", "set x = +1", "set x = 1.0", "set x = yes",
                     "set x = 'a", "set x = {}", "set w = a", "set w = 'A", "set w = 'a b", "set w = 'abcdefghijklm", "set w = 5",
                     "set f = True", "set f = 1", "set f = ye", "set f = yess", "set t = {}", "set t = {a=1 }", "set t = {b=1, a=1}",
                     "set t = {a=1, a=1}", "set t = {a=1,b=1}", "set t = {a='}", "set t = {a=1", "set t = {abcdefghi=1}",
                     "set t = {=1}", "set m = {a}", "set m = {b=1}", "set m = {a=1}}", "set m = {a=1, }", "set m.a = {}",
                     "set m = { }", "set m", "copy x y", "copy x to x", "copy x to w", "copy x to q", "copy x to m", "copy w to x",
                     "copy x to", "copy x to y;", "when has x: nothing", "when has x nothing end", "when has x:nothing end",
                     "when has x: end", "when has x: nothing  end", "when has x: nothing else nothing end",
                     "when has x: else clear x end", "when has x: clear x else end", "when has q: nothing end",
                     "when x: nothing end", "when x is: nothing end", "when x is 01: nothing end", "when m is {}: nothing end",
                     "when t is {a=1}: nothing end", "when x same x: nothing end", "when x same w: nothing end",
                     "when x are 1: nothing end", "when has x: clear x end end", "when has x: clear x else clear y else clear x end",
                     "when has x : clear x end", "has x", "x is 1", "end", "set x = \u0661", "set x = \u00b2", "clear \u0445"):
            self.check_bad(text, read_program, SMALL)

    def test_choices_in_values(self):
        schema = Schema({"top": {"m": message("m")}, "m": {"a": NUMBER, "b": NUMBER}}, {"m": [("a", "b")]})
        self.assertEqual(read_program(schema, "set m = {b=1}").steps, (("set", ("m",), {"b": 1}),))
        self.check_bad("set m = {a=1, b=1}", read_program, schema)


class BoundsTest(TextTestCase):
    def check_bound(self, text, more, *arguments):
        """Check that a text is read, and one that is one beyond a bound is not."""
        self.assertTrue(self.is_read(read_program, SMALL, text), text)
        self.check_bad(more, read_program, SMALL)

    def test_lengths(self):
        self.check_bound("set x = " + "9" * 60, "set x = " + "9" * 61)
        self.check_bad("set x = " + "9" * 5000, read_program, SMALL)
        self.check_bad("set x = " + "0" * 61, read_program, SMALL)
        self.check_bound("set w = '" + "a" * 12, "set w = '" + "a" * 13)
        self.check_bound("clear t." + "a" * 8, "clear t." + "a" * 9)
        self.check_bound("set t = {" + "a" * 8 + "=1}", "set t = {" + "a" * 9 + "=1}")
        self.assertEqual(read_path("a" * 8), ("a" * 8,))
        self.check_bad("a" * 9, read_path)
        self.check_bad("a" * 9, read_mask)

    def test_numbers_of_steps(self):
        clear = "clear x"
        self.check_bound("; ".join([clear] * 16), "; ".join([clear] * 17))
        within = "when has x: " + "; ".join([clear] * 15) + " end"
        self.check_bound(within, within + "; " + clear)
        copy = "copy x to y"
        self.check_bound("; ".join([copy] * 6), "; ".join([copy] * 7))
        self.check_bound("; ".join([copy] * 5) + "; when has x: nothing end", "; ".join([copy] * 5) + "; when has x: " + copy + " end")

    def nested(self, many):
        return "when has x: " * many + "clear x" + " end" * many

    def test_depths(self):
        self.check_bound(self.nested(3), self.nested(4))
        for many in (5, 100, 2000):
            self.check_bad(self.nested(many), read_program, SMALL)
            self.check_bad("when has x: " * many, read_program, SMALL)
            self.check_bad("set m = " + "{a=" * many, read_program, SMALL)
            self.check_bad("set q = " + "{a=" * many, read_program, SMALL)
            self.check_bad("set m = " + "{q=" * many, read_program, SMALL)
            self.check_bad("when has x: nothing else " * many + "clear x" + " end" * many, read_program, SMALL)
            self.check_bad("when q is " + "{q=" * many, read_program, SMALL)
            self.check_bad("set t = " + "{a=" * many + "1" + "}" * many, read_program, SMALL)
        deep = Program(SMALL, (when(("has", ("x",)), [], [when(("has", ("y",)), [when(("has", ("t",)))])]),))
        self.assertEqual(read_program(SMALL, program_text(deep)), deep)

    def test_long_rows(self):
        self.check_bad("; ".join(["clear x"] * 3000), read_program, SMALL)
        self.check_bad(".".join(["x"] * 3000) + ".", read_path)
        self.assertEqual(len(read_path(".".join(["x"] * 300))), 300)


# The texts of SMALL told once more, as a row of signs can be told; but for the sequence of names, and that the two
# paths of a copy or of "same" are different.
NAME = "[a-z]{1,8}"
COUNT = "(?:0|[1-9][0-9]{0,59})"
LEAF = f"(?:x|y|m\\.a|t\\.{NAME})"
ANYWHERE = f"(?:[fmtwxy]|m\\.a|t\\.{NAME})"
ROW = "'[a-z]{0,12}"
VALUES = (
    f"(?:{LEAF} = {COUNT}|w = {ROW}|f = (?:yes|no)|m = {{(?:a={COUNT})?}}|t = {{{NAME}={COUNT}(?:, {NAME}={COUNT})*}})"
)
ASKED = f"(?:has {ANYWHERE}|{LEAF} is {COUNT}|w is {ROW}|f is (?:yes|no)|{LEAF} same {LEAF})"
PLAIN = f"(?:set {VALUES}|clear {ANYWHERE}|copy {LEAF} to {LEAF})"


def steps_signs(deep):
    step = PLAIN
    if deep:
        inner = steps_signs(deep - 1)
        step = f"(?:{PLAIN}|when {ASKED}: (?:nothing|{inner})(?: else {inner})? end)"
    return f"(?:{step}(?:; {step})*)"


PROGRAM = re.compile(f"nothing|{steps_signs(2)}")


def is_text(text):
    """Tell whether something is the text of a program of SMALL that is not too long."""
    if not PROGRAM.fullmatch(text):
        return False
    for names in re.findall(r"\{([^}]*)\}", text):
        row = [part.split("=")[0] for part in names.split(", ")]
        if row != sorted(set(row)):
            return False
    pairs = re.findall(r"copy ([a-z.]+) to ([a-z.]+)", text) + re.findall(r"([a-z.]+) same ([a-z.]+)", text)
    return all(first != second for first, second in pairs)


class ChangedTextsTest(TextTestCase):
    TEXTS = (
        "nothing", "clear x", "clear t.ab; clear m.a", "set x = 10", "set w = 'ab", "set f = yes", "set t = {a=1, b=20}",
        "set m = {a=3}", "set m = {}", "copy x to y", "copy t.a to m.a", "when has x: nothing end",
        "when x is 5: set w = 'ab end; clear x", "when w is ': clear x else copy x to y; clear t end",
        "when f is no: when x same t.k: nothing end else set f = no end",
    )
    SIGNS = " ;:,.='{}01axyzew()A\n"
    PARTS = ("set", "clear", "copy", "to", "when", "has", "is", "same", "else", "end", "end;", "nothing", "x", "x;", "y:", "=",
             "m.a", "1", "'ab", "yes", "{}", "{a=1}", "{a=1,", "b=2}", "", "x:", "t.k", "t")

    def changed(self, text, signs, join):
        """Return the texts that are a text with one part put in, taken out or exchanged."""
        parts = text.split(" ") if join else list(text)
        glue = " " if join else ""
        rows = []
        for at in range(len(parts) + 1):
            rows.extend([parts[:at] + [sign] + parts[at:] for sign in signs])
            rows.extend([parts[:at] + [sign] + parts[at + 1:] for sign in signs])
            rows.append(parts[:at] + parts[at + 1:])
            rows.append(parts[:at] + parts[at + 1:at + 2] + parts[at:at + 1] + parts[at + 2:])
        return sorted({glue.join(row) for row in rows})

    def test_programs(self):
        good = bad = 0
        for text in self.TEXTS:
            self.assertTrue(is_text(text), text)
            for other in self.changed(text, self.SIGNS, False) + self.changed(text, self.PARTS, True):
                answer = self.is_read(read_program, SMALL, other)
                self.assertIs(answer, is_text(other), repr(other))
                if answer:
                    self.assertEqual(program_text(read_program(SMALL, other)), other)
                good, bad = good + answer, bad + (not answer)
        self.assertGreater(good, 200)
        self.assertGreater(bad, 3000)

    def test_masks_and_paths(self):
        for text in ("x", "m.a", "aa, b", "a.b, a.c, ab", "(none)", "abcdefgh, b"):
            for other in self.changed(text, self.SIGNS, False) + self.changed(text, self.PARTS, True):
                is_path = re.fullmatch(f"{NAME}(?:\\.{NAME})*", other) is not None
                self.assertIs(self.is_read(read_path, other), is_path, repr(other))
                if is_path:
                    self.assertEqual(read_path(other), tuple(other.split(".")))
                rows = [tuple(part.split(".")) for part in other.split(", ")]
                apart = not [1 for one in rows for two in rows if one != two and one[:len(two)] == two]
                all_paths_read = all(re.fullmatch(f"{NAME}(?:\\.{NAME})*", part) for part in other.split(", "))
                is_mask = other == "(none)" or all_paths_read and apart and rows == sorted(set(rows))
                self.assertIs(self.is_read(read_mask, other), bool(is_mask), repr(other))
                if is_mask:
                    self.assertEqual(mask_text(read_mask(other)), other)


class SameTest(TextTestCase):
    def test_programs_read_back_do_the_same(self):
        for number in range(60):
            schema, values, names = shapes()[number % len(shapes())]
            program = Chance(number, schema, FEW, names[:2]).program(5)
            again = read_program(schema, program_text(program))
            self.assertIsNot(again, program)
            for paper in all_papers(schema, FEW, names[:1])[:40]:
                self.assertEqual(again(paper), program(paper))

    def test_different_programs_have_different_texts(self):
        seen = {}
        for number in range(400):
            program = Chance(number, SMALL, FEW, ("a", "b")).program(3)
            text = program_text(program)
            self.assertEqual(seen.setdefault(text, program), program)
        self.assertGreater(len(seen), 200)


if __name__ == "__main__":
    unittest.main()
