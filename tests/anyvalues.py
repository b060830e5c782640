"""Values of all the kinds that "any value" means, for tests of wrong inputs."""


def nested(make, depth=100):
    """Return a value that is nested so deep, each level made by a function from the one within."""
    value = make("ab")
    for _ in range(depth - 1):
        value = make(value)
    return value


def any_values():
    """Return new values of every kind, small ones, large ones and deep ones."""
    return [
        0, 1, -1, 7, 10 ** 60 - 1, -(10 ** 60 - 1), True, False, None,
        "", "a", "x", "top", "ab", "text", "number", "flag", "message", "map", "A", "a b", "a1", "a.b", "abcdefgh",
        "abcdefghi", "abcdefghijkl", "abcdefghijklm", "\n", "a\n", "_", "none", "'ab", "x" * 300,
        (), ("",), ("x",), ("X",), (1,), (True,), (None,), ("x", "y"), ("y", "x"), ("x", 1), ("x", None), ("x", ""),
        ("text",), ("number",), ("flag",), ("map", "text"), ("map", "map"), ("message", "m"), ("message", 1),
        ("x", ()), ("x", []), ("x", {}), ([],), ({},), ((),), (("x",),), ("x",) * 50, (["x"], {"x": ["y"]}),
        [], [1], ["x"], ["x", "y"], ["text"], ["map", "text"], [[]], [()], [("x", "y")], [{}], [None], [True],
        {}, {"x": 1}, {"x": None}, {"x": {}}, {"x": []}, {"": 1}, {"X": 1}, {1: "x"}, {None: 1}, {True: 1}, {(): 1},
        {("x",): 1}, {"x": "ab", "y": "ab"}, {"top": {}}, {"top": None}, {"top": {"x": ("text",)}}, {"top": []},
        {((("x",),),): {"x": [({},)]}},
        nested(lambda value: (value,)), nested(lambda value: [value]), nested(lambda value: {"x": value}),
        nested(lambda value: {"top": value}), nested(lambda value: ("message", value)),
        nested(lambda value: ("x", [value, {"y": value}]), 12), nested(lambda value: {(value,): 0}, 1),
    ]


def schema_example():
    """Return new messages and choices with every kind, two deep messages, and choices of each sort of field."""
    messages = {
        "top": {
            "w": ("text",), "x": ("number",), "y": ("number",), "m": ("message", "m"), "t": ("map", "text"),
            "f": ("flag",),
        },
        "m": {
            "a": ("number",), "b": ("flag",), "n": ("message", "inner"), "g": ("map", "flag"), "e": ("message", "empty"),
        },
        "inner": {"c": ("map", "number"), "d": ("text",), "t": ("number",)},
        "empty": {},
    }
    choices = {"top": [("x", "y"), ("m", "t", "w")], "m": [("e", "g", "n")], "inner": []}
    return messages, choices
