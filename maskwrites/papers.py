"""Papers: documents of a schema, whose paths are set and cleared."""

from maskwrites.contents import clear_in, content_of, fresh, found, part_rows, put_in
from maskwrites.errors import BadPaper, BadPath, BadValue, Unset
from maskwrites.names import value_key


class Paper:
    """A document of a schema."""

    def __init__(self, schema, content=None):
        given = {} if content is None else content
        if not schema.is_content(given):
            raise BadPaper(content)
        self._schema = schema
        self._content = fresh(given)
        self._settle()

    @property
    def schema(self):
        """The schema of the paper."""
        return self._schema

    @property
    def content(self):
        """The dict from the fields that are set to their values."""
        return fresh(self._content)

    def __len__(self):
        return len(self._parts)

    def __eq__(self, other):
        if not isinstance(other, Paper):
            return NotImplemented
        return (len(self._parts), self._parts, self._worths, self._schema) == (
            len(other._parts), other._parts, other._worths, other._schema
        )

    def __lt__(self, other):
        if not isinstance(other, Paper):
            return NotImplemented
        # The schema comes last, as in __eq__: it decides no order, which papers of one schema alone have.
        return (len(self._parts), self._parts, self._worths, self._schema) < (
            len(other._parts), other._parts, other._worths, other._schema
        )

    def __contains__(self, path):
        return self._schema.is_path(path) and found(self._content, path) is not None

    def __iter__(self):
        raise TypeError("a paper is asked path by path")

    def __getitem__(self, path):
        if not self._schema.is_path(path):
            raise BadPath(path)
        value = found(self._content, path)
        if value is None:
            raise Unset(path)
        return fresh(value)

    def __setitem__(self, path, value):
        # What is no path raises BadPath here.
        if not self._schema.is_value(path, value):
            raise BadValue(value)
        put_in(self._schema, self._content, path, value)
        self._settle()

    def __ior__(self, other):
        # Rows of its own, for the other paper may be this very one.
        rows = part_rows(self._schema, other._content, ())
        for path, value in rows:
            if value is not None:
                put_in(self._schema, self._content, path, value)
            elif found(self._content, path) is None:
                put_in(self._schema, self._content, path, {})
        self._settle()
        return self

    def clear(self, path):
        """Clear a path, or raise BadPath."""
        if not self._schema.is_path(path):
            raise BadPath(path)
        clear_in(self._schema, self._content, path)
        self._settle()

    def parts(self):
        """Return the ascending list of the parts."""
        return list(self._parts)

    def copy(self):
        """Return another paper of the same content."""
        return Paper(self._schema, self._content)

    def only(self, mask):
        """Return a paper of the parts that a mask covers, and the messages above those."""
        return Paper(self._schema, content_of([row for row in self._part_rows() if row[0] in mask]))

    def outside(self, mask):
        """Return a paper without the parts that a mask covers."""
        return Paper(self._schema, content_of([row for row in self._part_rows() if row[0] not in mask]))

    def _part_rows(self):
        """Return the pairs of path and value for the parts."""
        return part_rows(self._schema, self._content, ())

    def _settle(self):
        """Keep that by which papers are compared, after each change."""
        rows = self._part_rows()
        self._parts = [path for path, _ in rows]
        self._worths = [value_key(value) for _, value in rows if value is not None]
