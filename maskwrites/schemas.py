"""Schemas: messages with their fields, choices among fields, and the paths through them."""

from maskwrites.errors import BadPath, BadSchema
from maskwrites.names import are_ascending, is_flag, is_name, is_number, is_text, sorted_names, sorted_paths

SIMPLE = ("text", "number", "flag")
MOST_MESSAGES = 6
MOST_FIELDS = 6
MOST_DEEP = 4
MOST_PATHS = 40


def is_kind(value):
    """Tell whether any value is a kind."""
    if not isinstance(value, tuple):
        return False
    if len(value) == 1:
        return value[0] in SIMPLE
    if len(value) != 2:
        return False
    if value[0] == "message":
        return is_name(value[1])
    return value[0] == "map" and value[1] in SIMPLE


def is_simple(word, value):
    """Tell whether any value is a text, a number or a flag, as the word says."""
    if word == "text":
        return is_text(value)
    if word == "number":
        return is_number(value)
    return is_flag(value)


def is_map(word, value):
    """Tell whether any value is a map that is set, to what the word says."""
    if not isinstance(value, dict) or not value:
        return False
    return all([is_name(name) and is_simple(word, value[name]) for name in value])


def is_name_row(value):
    """Tell whether any value is a tuple of names, perhaps of none."""
    return isinstance(value, tuple) and all([is_name(name) for name in value])


def is_message(value):
    """Tell whether any value has the form of one message."""
    if not isinstance(value, dict) or len(value) > MOST_FIELDS:
        return False
    return all([is_name(field) and is_kind(value[field]) for field in value])


def are_messages(value):
    """Tell whether any value has the form of messages, without how they stand in one another."""
    if not isinstance(value, dict) or len(value) > MOST_MESSAGES or "top" not in value:
        return False
    return all([is_name(name) and is_message(value[name]) for name in value])


def messages_in(fields):
    """Return the names of the messages that fields themselves name."""
    return [kind[1] for kind in fields.values() if kind[0] == "message"]


def are_there(messages):
    """Tell whether each message that a kind names is there."""
    return all([name in messages for fields in messages.values() for name in messages_in(fields)])


def standing_below(messages, names, many):
    """Return the names of the messages that stand so many deep below those of the names."""
    for _ in range(many):
        # As the keys of a dict, each name comes once.
        names = list({inner: True for name in names for inner in messages_in(messages[name])})
    return names


def stand_well(messages):
    """Tell whether no message stands within itself and none too deep or with too many paths."""
    # So many messages in one another would be one more than there are: one would be there twice.
    if standing_below(messages, list(messages), len(messages)):
        return False
    # This comes ahead of the paths, which a deep schema could have by the ten thousands.
    if standing_below(messages, ["top"], MOST_DEEP):
        return False
    return len(field_rows(messages, "top", ())) <= MOST_PATHS


def field_rows(messages, name, above):
    """Return the pairs of path and kind for all fields of a message at a path, and below."""
    rows = []
    for field, kind in messages[name].items():
        path = above + (field,)
        rows.append((path, kind))
        if kind[0] == "message":
            rows.extend(field_rows(messages, kind[1], path))
    return rows


def is_choice(fields, value):
    """Tell whether any value is a choice among the fields of a message."""
    if not is_name_row(value) or len(value) < 2:
        return False
    return all([field in fields for field in value]) and are_ascending(value)


def is_choice_list(fields, value):
    """Tell whether any value is a sequence of choices of a message that share no field."""
    if not isinstance(value, (list, tuple)) or not all([is_choice(fields, row) for row in value]):
        return False
    chosen = [field for choice in value for field in choice]
    return len(set(chosen)) == len(chosen)


def are_choices(messages, value):
    """Tell whether any value has choices for messages, perhaps for none."""
    if value is None:
        return True
    if not isinstance(value, dict) or not all([is_name(name) and name in messages for name in value]):
        return False
    return all([is_choice_list(messages[name], value[name]) for name in value])


def is_schema(messages, choices):
    """Tell whether any two values are the messages and the choices of a schema."""
    if not are_messages(messages) or not are_there(messages) or not stand_well(messages):
        return False
    return are_choices(messages, choices)


class Schema:
    """The messages that papers have, and the choices among their fields."""

    def __init__(self, messages, choices=None):
        if not is_schema(messages, choices):
            raise BadSchema((messages, choices))
        # All is kept in one order, so that the order of what was handed in shows nowhere.
        self._messages = {}
        self._choices = {}
        given = {} if choices is None else choices
        for name in sorted_names(messages):
            self._messages[name] = {field: messages[name][field] for field in sorted_names(messages[name])}
            self._choices[name] = sorted_paths(given.get(name, []))
        self._kinds = {path: kind for path, kind in field_rows(self._messages, "top", ())}

    def __eq__(self, other):
        return isinstance(other, Schema) and self._messages == other._messages and self._choices == other._choices

    @property
    def messages(self):
        """The dict from the names of messages to dicts from their fields to kinds."""
        return {name: dict(fields) for name, fields in self._messages.items()}

    @property
    def choices(self):
        """The dict from the names of messages that have choices to the lists of these."""
        return {name: list(rows) for name, rows in self._choices.items() if rows}

    def kind_at(self, path):
        """Return the kind at a path, or raise BadPath."""
        kind = self._kind_found(path)
        if kind is None:
            raise BadPath(path)
        return kind

    def is_path(self, value):
        """Tell whether any value is a path of the schema."""
        return self._kind_found(value) is not None

    def fields(self, path):
        """Return the ascending fields of the message at a path, of the top for (), or raise BadPath."""
        return list(self._messages[self._message_at(path)])

    def mates(self, path):
        """Return the ascending paths that may not be set beside the field at a path, or raise BadPath."""
        if not self.is_path(path):
            raise BadPath(path)
        # A name of a map is no field, though a field beside the map may be called so.
        if path not in self._kinds:
            return []
        above = path[:-1]
        for choice in self._choices[self._message_at(above)]:
            if path[-1] in choice:
                return [above + (field,) for field in choice if field != path[-1]]
        return []

    def is_value(self, path, value):
        """Tell whether any value may be set at a path, or raise BadPath."""
        return self._is_of_kind(self.kind_at(path), value)

    def is_content(self, value):
        """Tell whether any value is the content of a paper."""
        return self._is_content("top", value)

    def _kind_found(self, path):
        """Return the kind at any value, None if it is not a path."""
        # Only tuples of names are looked up: other values may have no hash.
        if not is_name_row(path):
            return None
        if path in self._kinds:
            return self._kinds[path]
        above = self._kinds.get(path[:-1], ("",))
        return (above[1],) if above[0] == "map" else None

    def _message_at(self, path):
        """Return the name of the message at a path, of the top for (), or raise BadPath."""
        if path == ():
            return "top"
        kind = self.kind_at(path)
        if kind[0] != "message":
            raise BadPath(path)
        return kind[1]

    def _is_of_kind(self, kind, value):
        """Tell whether any value is one of a kind."""
        if kind[0] == "message":
            return self._is_content(kind[1], value)
        if kind[0] == "map":
            return is_map(kind[1], value)
        return is_simple(kind[0], value)

    def _is_content(self, name, value):
        """Tell whether any value is a content of the message of a name."""
        if not isinstance(value, dict):
            return False
        fields = self._messages[name]
        for field in value:
            if not is_name(field) or field not in fields or not self._is_of_kind(fields[field], value[field]):
                return False
        chosen = [[field for field in choice if field in value] for choice in self._choices[name]]
        return all([len(row) < 2 for row in chosen])
