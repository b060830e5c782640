"""Grounds: the places that count when something is decided for all papers of a schema."""

from maskwrites.contents import part_rows
from maskwrites.names import least_name, sorted_paths
from maskwrites.programs import all_steps


def field_paths(schema, above):
    """Return the paths to the fields of the message at a path, and below."""
    paths = []
    for field in schema.fields(above):
        path = above + (field,)
        paths.append(path)
        if schema.kind_at(path)[0] == "message":
            paths.extend(field_paths(schema, path))
    return paths


def is_map_name(schema, path):
    """Tell whether a path leads to a name of a map."""
    return len(path) > 1 and schema.kind_at(path[:-1])[0] == "map"


def map_names(schema, paths):
    """Return those of some paths that lead to a name of a map."""
    return [path for path in paths if is_map_name(schema, path)]


def paths_of_test(test):
    """Return the paths that a test names, those that "more" names beside the map too."""
    if test[0] == "same":
        return [test[1], test[2]]
    if test[0] == "more":
        return [test[1] + (name,) for name in test[2]]
    return [test[1]]


def paths_of_value(schema, path, value):
    """Return a path and those that stand in the value that it is set to."""
    if not isinstance(value, dict):
        return [path]
    if schema.kind_at(path)[0] == "message":
        return [inner for inner, _ in part_rows(schema, value, path)]
    return [path + (name,) for name in value]


def paths_of_step(schema, step):
    """Return the paths that a step itself names."""
    if step[0] == "when":
        return paths_of_test(step[1])
    if step[0] == "set":
        return paths_of_value(schema, step[1], step[2])
    if step[0] == "copy":
        return [step[1], step[2]]
    return [step[1]]


def names_of_steps(schema, steps):
    """Return the paths to names of maps that steps name."""
    return map_names(schema, [path for step in all_steps(steps) for path in paths_of_step(schema, step)])


def spare_names(schema, fields, named):
    """Return for each map the path to the least name of it that nothing names."""
    taken = {path: True for path in named}
    spares = []
    for path in fields:
        if schema.kind_at(path)[0] == "map":
            names = [row[-1] for row in taken if row[:-1] == path]
            spares.append(path + (least_name(names),))
    return spares


def shifted(rows, papers):
    """Return the rows of places of one paper, and behind them these of each further paper."""
    size = len(rows)
    return [[at + size * number for at in row] for number in range(papers) for row in rows]


class Ground:
    """The places that count, numbered in ascending order: all fields, and some names of maps.

    These are the names that something names, and of each map one to spare: whatever is asked cannot tell the
    names apart that nothing names, and a least paper has at most one of them in a map. The same holds for a least
    pair, for two papers may have unlike values at the one name. The places of a second paper have the numbers behind
    those of the first one.
    """

    def __init__(self, schema, named, papers=1):
        fields = field_paths(schema, ())
        spares = spare_names(schema, fields, named)
        # These are of the first paper alone; a name to spare is told for its map.
        self.places = sorted_paths({path: True for path in fields + named + spares})
        self.numbers = {path: at for at, path in enumerate(self.places)}
        self.spares = {self.numbers[path[:-1]]: self.numbers[path] for path in spares}
        self.size = len(self.places)
        self.words = [schema.kind_at(path)[0] for path in self.places] * papers
        # On the way to a place from the top; what may not stand beside it; what stands straight below it.
        ways = [[self.numbers[path[:many]] for many in range(1, len(path) + 1)] for path in self.places]
        self.ways = shifted(ways, papers)
        self.beside = shifted([[self.numbers[mate] for mate in schema.mates(path)] for path in self.places], papers)
        # What stands above a place, or -1.
        self.above = [way[-2] if len(way) > 1 else -1 for way in self.ways]
        self.inner = [[] for _ in self.words]
        for at, above in enumerate(self.above):
            if above >= 0:
                self.inner[above].append(at)
        self.reach = self._parts_at_or_below()

    def _parts_at_or_below(self):
        """Return for each place the parts that may stand at it or below it: all but maps."""
        rows = [[] for _ in self.words]
        for at, way in enumerate(self.ways):
            if self.words[at] != "map":
                for above in way:
                    rows[above].append(at)
        return rows

    def is_leaf(self, at):
        """Tell whether a place is one of a text, a number or a flag."""
        return self.words[at] not in ("message", "map")

    def is_spare(self, at):
        """Tell whether a place is one of a name of a map that nothing names."""
        return self.spares.get(self.above[at]) == at

    def is_part_of_first(self, at):
        """Tell whether a place is one of a part of the first paper."""
        return at < self.size and self.words[at] != "map"
