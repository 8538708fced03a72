"""Decks made by chance, always the same ones for the same number."""

import random

TRAITS = ("left", "top", "wide", "high", "size", "ink")
NAMES = ("a", "b", "b1", "c", "d", "e")
LINES = ("", "one", "two words", "{n} of {all}: {name}", "a longer line of more words", " blanks  within ", "{{n}")


def some_worth(chance, trait):
    if trait == "ink":
        return chance.choice(("red", "blue", "plain"))
    if trait in ("left", "top"):
        return chance.randint(-3, 3)
    return chance.randint(1, 20 if trait in ("wide", "high") else 4)


def some_lines(chance):
    return tuple(chance.choice(LINES) for _ in range(chance.randint(0, 4)))


def some_place(chance, name):
    settings = tuple((trait, some_worth(chance, trait)) for trait in TRAITS if chance.random() < 0.3)
    return (name, settings, some_lines(chance) if chance.random() < 0.5 else None)


def some_masters(chance):
    names = [f"m{k}" for k in range(chance.randint(1, 6))]
    masters = []
    for k, name in enumerate(names):
        over = chance.choice([None] + names[:k] * 3)
        own = chance.sample(NAMES, chance.randint(0, 4))
        masters.append((name, over, tuple(some_place(chance, place) for place in own)))
    chance.shuffle(masters)
    return tuple(masters)


def some_hands(chance):
    keys = [(place, trait) for place in NAMES for trait in TRAITS if chance.random() < 0.15]
    return tuple((place, trait, some_worth(chance, trait)) for place, trait in keys)


def some_step(chance):
    kind = chance.choice(("press", "with", "after"))
    line = chance.choice((None, 0, 1, 2, 5))
    return (kind, chance.randint(0, 4), chance.choice(("come", "go", "dim")), chance.choice(NAMES), line)


def some_target(chance, names):
    return chance.choice((("first",), ("last",), ("return",), ("slide", chance.choice(names)), ("slide", names[0])))


def some_slide(chance, name, names, masters):
    return (
        name,
        chance.choice(masters)[0],
        some_hands(chance),
        tuple((place, some_lines(chance)) for place in NAMES if chance.random() < 0.3),
        tuple(some_step(chance) for _ in range(chance.randint(0, 8))),
        tuple((place, some_target(chance, names)) for place in NAMES if chance.random() < 0.4),
        chance.choice((0, 0, 1)),
        chance.choice(("", "notes of some words")),
    )


def some_deck(number):
    """The deck of this number, and the source of chance behind it."""
    chance = random.Random(number)
    masters = some_masters(chance)
    names = [f"s{k}" for k in range(chance.randint(1, 5))]
    return (masters, tuple(some_slide(chance, name, names, masters) for name in names)), chance
