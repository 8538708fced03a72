"""Deeds made by chance to decks made by chance; some of them are refused."""

from tests.random_decks import NAMES, TRAITS, some_lines, some_place, some_slide, some_step, some_target, some_worth

WORDS = (
    "set unset place unplace text over hand free fill under master drop add take go call rename hide note steps links"
).split()


def some_master(chance, deck):
    return chance.choice(deck[0])[0]


def some_name(chance, deck):
    """Mostly the name of a slide."""
    return chance.choice([slide[0] for slide in deck[1]] + ["none"])


def fresh_name(chance, start):
    return f"{start}{chance.randint(0, 15)}"


def deed_at_master(chance, deck, word):
    master, place = some_master(chance, deck), chance.choice(NAMES)
    if word in ("set", "unset"):
        trait = chance.choice(TRAITS)
        return (word, master, place, trait) + ((some_worth(chance, trait),) if word == "set" else ())
    if word == "text":
        return (word, master, place, chance.choice((None, some_lines(chance))))
    if word == "over":
        return (word, master, chance.choice((None, some_master(chance, deck))))
    if word == "master":
        return (word, (fresh_name(chance, "m"), chance.choice((None, master)), (some_place(chance, place),)))
    if word == "rename":
        return (word, master, fresh_name(chance, "m"))
    return (word, master) if word == "drop" else (word, master, place)


def part_of_slide(chance, deck, word):
    """What a deed hands to a slide beside its name."""
    names = [slide[0] for slide in deck[1]] or ["none"]
    if word == "under":
        return some_master(chance, deck)
    if word == "go":
        return chance.randint(0, 5)
    if word == "call":
        return fresh_name(chance, "s")
    if word == "hide":
        return chance.randint(0, 1)
    if word == "note":
        return chance.choice(("", "other notes", " "))
    if word == "steps":
        return tuple(some_step(chance) for _ in range(chance.randint(0, 6)))
    return tuple((place, some_target(chance, names)) for place in NAMES if chance.random() < 0.3)


def deed_at_slide(chance, deck, word):
    name, place, trait = some_name(chance, deck), chance.choice(NAMES), chance.choice(TRAITS)
    if word == "hand":
        return (word, name, place, trait, some_worth(chance, trait))
    if word == "free":
        return (word, name, place, trait)
    if word == "fill":
        return (word, name, place, chance.choice((None, some_lines(chance))))
    if word == "take":
        return (word, name)
    if word == "add":
        fresh = fresh_name(chance, "s")
        names = [slide[0] for slide in deck[1]] + [fresh]
        return (word, chance.randint(0, 5), some_slide(chance, fresh, names, deck[0]))
    return (word, name, part_of_slide(chance, deck, word))


def some_deed(chance, deck):
    word = chance.choice(WORDS)
    if word in ("set", "unset", "place", "unplace", "text", "over", "master", "drop", "rename"):
        return deed_at_master(chance, deck, word)
    return deed_at_slide(chance, deck, word)
