"""What several tests hand in: things of other kinds, and masters."""


class Stranger:
    """A thing that claims to equal everything."""

    def __eq__(self, other):
        return True

    def __hash__(self):
        return 0


def deep(kind, depth):
    """Lists or tuples within one another."""
    thing = kind()
    for _ in range(depth - 1):
        thing = kind((thing,))
    return thing


# None of these is a name, a trait, a worth, a line, lines, a setting, a place or a master.
STRANGE = (
    True,
    False,
    1000,
    -1000,
    10**5000,
    "A\n",
    "a percent sign, %",
    b"a",
    [],
    ["a"],
    [None],
    (None,),
    ((),),
    (("a",), ["b"]),
    deep(list, 10),
    deep(tuple, 10),
    {},
    {"a": 1},
    {"a"},
    object(),
    Stranger(),
)

# A master under another one that is told behind it; each trait is set somewhere.
MASTERS = (
    (
        "mid",
        "base",
        (
            ("body", (("left", 7), ("ink", "red")), None),
            ("note", (), ()),
            ("foot", (("size", 3),), ("mid foot",)),
        ),
    ),
    ("other", None, (("alone", (("wide", 999),), ("alone",)),)),
    (
        "leaf",
        "mid",
        (
            ("side", (), None),
            ("body", (("left", -999), ("size", 99)), None),
            ("top", (("ink", "blue"),), ("leaf top", "")),
        ),
    ),
    (
        "base",
        None,
        (
            ("top", (("left", 1), ("top", 2), ("wide", 3), ("high", 4), ("size", 5), ("ink", "ash")), ("base top",)),
            ("body", (("left", 8), ("top", 9), ("ink", "green")), ("one", "two")),
            ("note", (), ("base note",)),
        ),
    ),
)
