"""Changes to nested tuples by chance: what is nearly right, for wrong inputs."""

from tests.examples import ANYTHING
from tests.randomprograms import item_at, places, with_item


def changed(chance, thing, others=()):
    """A nested tuple with a part replaced, left out, doubled, exchanged, or of another kind."""
    spots = list(places(thing))
    path = chance.choice(spots)
    item = item_at(thing, path)
    return with_item(thing, path, another(chance, item, [item_at(thing, spot) for spot in spots], list(others)))


def another(chance, item, parts, others):
    kind = chance.randrange(8)
    if kind == 0:
        return chance.choice(ANYTHING)
    if kind == 1 or (kind < 6 and item == ()):
        return chance.choice(parts + others)
    if isinstance(item, bool):
        return chance.choice([not item, int(item), None])
    if isinstance(item, int):
        return chance.choice([item + 1, item - 1, bool(item), item + 10, 0, None, str(item)])
    if isinstance(item, str):
        return chance.choice([item + "a", item[:-1], item.upper(), (item,), 0, chance.choice(parts)])
    if item is None:
        return chance.choice([0, False, "", ()])
    if not isinstance(item, tuple):
        return tuple(item)
    at = chance.randrange(len(item)) if item else 0
    return [
        item[:at] + item[at + 1:],
        item[:at] + item[at:at + 1] * 2 + item[at + 1:],
        item[::-1],
        item[at:] + item[:at],
        list(item),
        item + (chance.choice(parts),),
        {str(number): part for number, part in enumerate(item)},
        item[:at],
    ][kind]
