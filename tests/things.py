"""What several tests hand in: things of other kinds, masters, slides and a deck."""


class Stranger:
    """A thing that claims to equal everything."""

    def __eq__(self, other):
        return True

    def __hash__(self):
        return 0


def deep(kind, depth):
    """Lists or tuples within one another."""
    thing = kind()
    for _ in range(depth - 1):
        thing = kind((thing,))
    return thing


def nodes(thing, way=()):
    """The way to each thing within a thing, itself included."""
    yield way
    if isinstance(thing, tuple):
        for at, part in enumerate(thing):
            yield from nodes(part, way + (at,))


def at_way(thing, way):
    for at in way:
        thing = thing[at]
    return thing


def changed(thing, way, fresh):
    if not way:
        return fresh
    at = way[0]
    return thing[:at] + (changed(thing[at], way[1:], fresh),) + thing[at + 1 :]


# None of these is a name, a trait, a worth, a line, lines, a setting, a place or a master,
# nor a hand, a fill, a step, a link, a slide, a deck or a part of one, other than None.
STRANGE = (
    True,
    False,
    1000,
    -1000,
    10**5000,
    "A\n",
    "a percent sign, %",
    b"a",
    [],
    ["a"],
    [None],
    (None,),
    ((),),
    (("a",), ["b"]),
    deep(list, 10),
    deep(tuple, 10),
    {},
    {"a": 1},
    {"a"},
    object(),
    Stranger(),
)

# A master under another one that is told behind it; each trait is set somewhere.
MASTERS = (
    (
        "mid",
        "base",
        (
            ("body", (("left", 7), ("ink", "red")), None),
            ("note", (), ()),
            ("foot", (("size", 3),), ("mid foot",)),
        ),
    ),
    ("other", None, (("alone", (("wide", 999),), ("alone",)),)),
    (
        "leaf",
        "mid",
        (
            ("side", (), None),
            ("body", (("left", -999), ("size", 99)), None),
            ("top", (("ink", "blue"),), ("leaf top", "")),
        ),
    ),
    (
        "base",
        None,
        (
            ("top", (("left", 1), ("top", 2), ("wide", 3), ("high", 4), ("size", 5), ("ink", "ash")), ("base top",)),
            ("body", (("left", 8), ("top", 9), ("ink", "green")), ("one", "two")),
            ("note", (), ("base note",)),
        ),
    ),
)

# Each part is filled; "gone", "lost", "void" and "where" are none of the places of its master.
ONE = (
    "one",
    "leaf",
    (("body", "left", 3), ("body", "ink", "grey"), ("gone", "size", 9), ("note", "top", -1), ("top", "wide", 50)),
    (("body", ("{n} of {all}", "", "third")), ("lost", ("lost",)), ("side", ())),
    (
        ("with", 0, "come", "body", 0),
        ("press", 5, "come", "body", 1),
        ("after", 2, "dim", "body", None),
        ("press", 99, "go", "void", 11),
    ),
    (("body", ("slide", "three")), ("foot", ("last",)), ("top", ("first",)), ("where", ("return",))),
    0,
    "Notes of the first slide.",
)
TWO = ("two", "base", (), (), (), (), 1, "")
THREE = (
    "three",
    "other",
    (("alone", "high", 2), ("body", "left", 5)),
    (("alone", ()),),
    (("press", 1, "go", "alone", None),),
    (("alone", ("slide", "one")),),
    0,
    "x" * 200,
)
FOUR = ("four", "mid", (("foot", "size", 2),), (), (), (), 0, "")
SLIDES = (ONE, TWO, THREE, FOUR)
DECK = (MASTERS, SLIDES)

# What a part of a slide is called, in the order in which a slide tells it.
PARTS = ("name", "master", "hands", "fills", "steps", "links", "hidden", "notes")


def slide_with(slide, **parts):
    """A slide with some of its parts put in the place of its own."""
    return tuple(parts.get(part, own) for part, own in zip(PARTS, slide))


def bare(name, master="leaf", **parts):
    """A slide with nothing at it but the parts that are told."""
    return slide_with((name, master, (), (), (), (), 0, ""), **parts)


# None of these is a deck: there is one of each fault, and things of other kinds.
NO_DECKS = STRANGE + (
    None,
    0,
    "",
    (),
    [],
    MASTERS,
    SLIDES,
    (MASTERS,),
    (MASTERS, SLIDES, ()),
    [MASTERS, SLIDES],
    (list(MASTERS), SLIDES),
    (MASTERS, list(SLIDES)),
    ((), ()),
    (MASTERS * 4, SLIDES),
    (MASTERS, SLIDES * 11),
    (MASTERS + (("M", None, ()),), SLIDES),
    (MASTERS + (MASTERS[0],), SLIDES),
    (MASTERS + (("more", "none", ()),), SLIDES),
    (MASTERS + (("more", "more", ()),), SLIDES),
    (MASTERS, SLIDES + (bare("S"),)),
    (MASTERS, SLIDES + (FOUR,)),
    (MASTERS, SLIDES + (bare("five", "none"),)),
    (MASTERS, (ONE,)),
)
