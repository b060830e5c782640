"""Schemas, all small papers of them, and programs by chance (always the same ones), for tests."""

import itertools
import random

from maskwrites.errors import BadProgram
from maskwrites.papers import Paper
from maskwrites.programs import Program
from maskwrites.schemas import Schema

NUMBER = ("number",)
TEXT = ("text",)
FLAG = ("flag",)

FEW = {"number": [0, 1], "text": ["", "a"], "flag": [False, True]}
MORE = {"number": [0, 1, 2, 3], "text": ["", "a", "b", "aa"], "flag": [False, True]}


def message(name):
    return ("message", name)


def shapes():
    """Return small schemas of several shapes, with the values and names of which all papers are to be tried."""
    return [
        (Schema({"top": {"f": FLAG, "x": NUMBER, "y": NUMBER}}, {"top": [("x", "y")]}), MORE, ()),
        (Schema({"top": {"x": NUMBER, "y": NUMBER, "z": NUMBER}}), MORE, ()),
        (Schema({"top": {"f": FLAG, "g": FLAG, "h": FLAG, "m": message("m")}, "m": {"f": FLAG}}), MORE, ()),
        (Schema({
            "top": {"m": message("m"), "x": NUMBER}, "m": {"a": NUMBER, "n": message("n")}, "n": {"b": NUMBER},
        }, {"m": [("a", "n")]}), MORE, ()),
        (Schema({"top": {"t": ("map", "number"), "x": NUMBER}}), FEW, ("a", "aa", "b", "k")),
        (Schema({"top": {"f": FLAG, "t": ("map", "flag")}}, {"top": [("f", "t")]}), FEW, ("a", "aa", "b")),
        (Schema({
            "top": {"k": message("m"), "m": message("m")}, "m": {"e": message("e"), "t": ("map", "flag")}, "e": {},
        }, {"top": [("k", "m")]}), FEW, ("a", "b")),
        (Schema({
            "top": {"k": message("m"), "m": message("m")}, "m": {"e": message("e"), "t": ("map", "flag")}, "e": {},
        }, {"m": [("e", "t")]}), FEW, ("a", "b")),
        (Schema({
            "top": {"m": message("m"), "v": TEXT, "w": TEXT}, "m": {"e": message("e"), "w": TEXT}, "e": {"w": TEXT},
        }, {"m": [("e", "w")]}), {"text": ["", "a", "b"]}, ()),
        (Schema({
            "top": {"m": message("m"), "x": NUMBER}, "m": {"a": NUMBER, "t": ("map", "number")},
        }, {"m": [("a", "t")]}), FEW, ("a", "aa", "b")),
    ]


def values_of(schema, kind, values, names):
    """Return all values of a kind that have only the values and names told."""
    if kind[0] == "message":
        return contents_of(schema, kind[1], values, names)
    if kind[0] != "map":
        return list(values[kind[0]])
    return [
        dict(zip(row, worths))
        for many in range(1, len(names) + 1) for row in itertools.combinations(names, many)
        for worths in itertools.product(values[kind[1]], repeat=many)
    ]


def contents_of(schema, name, values, names):
    """Return all contents of a message that have only the values and names told."""
    fields = schema.messages[name]
    rows = itertools.product(*[[None] + values_of(schema, kind, values, names) for kind in fields.values()])
    contents = [
        {field: value for field, value in zip(fields, row) if value is not None} for row in rows
    ]
    choices = schema.choices.get(name, [])
    return [
        content for content in contents
        if all(sum(field in content for field in choice) < 2 for choice in choices)
    ]


def all_papers(schema, values, names=()):
    """Return all papers that have only the values and names told."""
    return [Paper(schema, content) for content in contents_of(schema, "top", values, names)]


def all_paths(schema, names=(), above=()):
    """Return all paths of a schema, of the names of maps those told."""
    paths = []
    for field in schema.fields(above):
        path = above + (field,)
        paths.append(path)
        kind = schema.kind_at(path)
        if kind[0] == "message":
            paths.extend(all_paths(schema, names, path))
        elif kind[0] == "map":
            paths.extend([path + (name,) for name in names])
    return paths


class Chance:
    """Steps and tests of a schema by chance, the same ones for the same number."""

    def __init__(self, number, schema, values, names=()):
        self.random = random.Random(number)
        self.schema = schema
        self.values = values
        self.names = names
        self.paths = all_paths(schema, names)
        self.leaves = [path for path in self.paths if schema.kind_at(path) in (NUMBER, TEXT, FLAG)]

    def value(self, path):
        return self.random.choice(values_of(self.schema, self.schema.kind_at(path), self.values, self.names))

    def two_leaves(self):
        first = self.random.choice(self.leaves)
        kind = self.schema.kind_at(first)
        others = [path for path in self.leaves if path != first and self.schema.kind_at(path) == kind]
        return (first, self.random.choice(others)) if others else None

    def test(self):
        chance = self.random.random()
        two = self.two_leaves()
        if chance < 0.35:
            return ("has", self.random.choice(self.paths))
        if chance < 0.7 or two is None:
            path = self.random.choice(self.leaves)
            return ("is", path, self.value(path))
        return ("same", *two)

    def step(self, deep):
        chance = self.random.random()
        two = self.two_leaves()
        if chance < 0.2 and deep < 3:
            return ("when", self.test(), self.some_steps(2, deep + 1), self.some_steps(2, deep + 1))
        if chance < 0.4 and two is not None:
            return ("copy", *two)
        path = self.random.choice(self.paths)
        return ("set", path, self.value(path)) if chance < 0.75 else ("clear", path)

    def some_steps(self, most, deep=0):
        return tuple([self.step(deep) for _ in range(self.random.randint(0, most))])

    def program(self, most, forks=6):
        """Return a program of so many steps, not counting those within "when", and so many that copy or are "when"."""
        while True:
            steps = self.some_steps(most)
            text = repr(steps)
            try:
                if text.count("('copy'") + text.count("('when'") <= forks:
                    return Program(self.schema, steps)
            except BadProgram:
                pass

    def near(self, program):
        """Return a program that is made from another one by a small change."""
        steps = list(program.steps)
        place = self.random.randrange(len(steps) + 1)
        change = self.random.choice(("out", "twice", "turn", "new"))
        if change == "out":
            del steps[place:place + 1]
        elif change == "twice":
            steps[place:place] = steps[place:place + 1]
        elif change == "turn":
            steps[place:place + 2] = steps[place:place + 2][::-1]
        else:
            steps.insert(place, self.step(2))
        try:
            return Program(self.schema, steps)
        except BadProgram:
            return program
