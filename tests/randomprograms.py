"""Programs that pass the checks, and values for them, made by chance from a seed."""

import random

SORTS = ("make", "test", "gather", "measure")
SIGNATURES = [
    (), (("a", 0),), (("cons", 2), ("end", 0), ("one", 0), ("two", 0)), (("a", 0), ("b", 1), ("c", 2)),
    (("case", 1), ("else", 0), ("rank", 3), ("tags", 0)), (("a", 1), ("b", 1), ("x", 0)),
]
NAMES = (
    "x y a b c case rank tags else make test gather measure part tag call ask take same is not both either if yes no "
    "and or none one root union never number plus least most void cons f g"
).split()


class Maker:
    """Makes programs; the same seed makes the same ones."""

    def __init__(self, seed, most_params=2, depth=3):
        self.chance = random.Random(seed)
        self.most_params = most_params
        self.depth = depth

    def program(self, groups=None, sorts=SORTS, most=None):
        self.signature = self.chance.choice(SIGNATURES[self.chance.random() < 0.95:])
        self.counts = dict(self.signature, void=0)
        names = self.chance.sample(NAMES, 20)
        self.earlier = []
        made = []
        for _ in range(groups or self.chance.randint(1, 5)):
            self.sort = self.chance.choice(sorts)
            heads = []
            for _ in range(self.chance.randint(1, most or (4 if groups == 1 else 2))):
                params = tuple(self.chance.sample(NAMES, self.chance.randint(1, self.most_params)))
                heads.append((names.pop(), params, self.chance.randint(0, 9) if self.sort == "test" else 0))
            self.own = [(self.sort, name, len(params)) for name, params, _ in heads]
            made.append((self.sort, tuple(head + (self.start(head),) for head in heads)))
            self.earlier.extend(self.own)
        return self.signature, tuple(made)

    def start(self, head):
        """A body that takes a parameter apart, so that calls get on."""
        names = list(head[1])
        return self.case(names, self.depth) if self.chance.random() < 0.9 else self.body(names, self.depth)

    def case(self, names, depth):
        tags = [tag for tag, count in self.signature if self.chance.random() < 0.5 + count / 2]
        branches = []
        for tag in tags:
            fields = tuple(self.chance.sample(NAMES, self.counts[tag]))
            # Own fields come first: they are used more often.
            branches.append((tag, fields, self.body(list(fields) * 4 + names, depth - 1)))
        return "case", self.chance.choice(names), tuple(branches), self.body(names, depth - 1)

    def body(self, names, depth):
        if depth > 0:
            word = self.chance.choice(["case", "if"] + ["plain"] * 6)
            if word == "case":
                return self.case(names, depth)
            if word == "if":
                return "if", self.condition(names, depth - 1), self.body(names, depth - 1), self.body(names, depth - 1)
        return {"make": self.making, "test": self.testing, "gather": self.gathering, "measure": self.measuring}[
            self.sort](names, depth)

    def pick(self, sort, from_own):
        found = [entry for entry in (self.own if from_own else self.earlier) if entry[0] == sort]
        return self.chance.choice(found) if found else None

    def own_call(self, names):
        _, name, count = self.pick(self.sort, True)
        return "call", name, tuple(("part", self.chance.choice(names)) for _ in range(count))

    def use(self, word, sort, names, depth):
        """A use of an earlier function of a sort, or None."""
        entry = self.pick(sort, False)
        if entry is None:
            return None
        return word, entry[1], tuple(self.term(names, depth - 1) for _ in range(entry[2]))

    def term(self, names, depth, free=False):
        """A term; calls of the own group are in it only if it is free."""
        roll = self.chance.random()
        if free and roll < 0.45:
            return self.own_call(names)
        if depth > 0 and roll < 0.6:
            found = self.use("call", "make", names, depth)
            if found is not None:
                return found
        if depth > 0 and roll < 0.8:
            tag = self.chance.choice(sorted(self.counts))
            return "tag", tag, tuple(self.term(names, depth - 1, free) for _ in range(self.counts[tag]))
        return "part", self.chance.choice(names)

    def condition(self, names, depth):
        word = self.chance.choice(["ask", "same", "is", "is"] + ["not", "both", "either"] * (depth > 0))
        if word == "ask":
            found = self.use("ask", "test", names, depth)
            if found is not None:
                return found
            word = "is"
        if word == "same":
            return "same", self.term(names, depth - 1), self.term(names, depth - 1)
        if word == "is":
            return "is", self.term(names, depth - 1), self.chance.choice(sorted(self.counts))
        return (word,) + tuple(self.condition(names, depth - 1) for _ in range(1 if word == "not" else 2))

    def making(self, names, depth):
        return self.term(names, max(depth, 1), True)

    def sides(self, words, names, depth):
        word = self.chance.choice(words)
        return word, self.body(names, depth - 1), self.body(names, depth - 1)

    def testing(self, names, depth):
        roll = self.chance.random()
        if depth > 0 and roll < 0.4:
            return self.sides(["and", "or"], names, depth)
        if roll < 0.8:
            return self.own_call(names)
        found = self.use("ask", "test", names, depth) if roll < 0.9 else None
        return found or (self.chance.choice(["yes", "no"]),)

    def gathering(self, names, depth):
        roll = self.chance.random()
        if depth > 0 and roll < 0.4:
            return self.sides(["union"], names, depth)
        if roll < 0.7:
            return self.own_call(names)
        found = self.use("take", "gather", names, depth) if roll < 0.8 else None
        return found or self.chance.choice([
            ("none",), ("one", self.chance.choice(sorted(self.counts))), ("root", self.chance.choice(names)),
        ])

    def measuring(self, names, depth):
        roll = self.chance.random()
        if depth > 0 and roll < 0.3:
            return self.sides(["least", "most"], names, depth)
        if depth > 0 and roll < 0.5:
            return "plus", self.chance.choice([0, 1, 2, 99]), self.body(names, depth - 1)
        if roll < 0.75:
            return self.own_call(names)
        found = self.use("take", "measure", names, depth) if roll < 0.85 else None
        return found or self.chance.choice([("never",), ("number", self.chance.choice([0, 1, 5, 99]))])

    def sheet(self, size):
        """A sheet of the signature of the program made last."""
        counts = self.counts
        tags = [tag for tag in sorted(counts) for _ in range(1 + 3 * counts[tag]) if tag != "void"] or ["void"]
        tags = [self.chance.choice(tags) for _ in range(size)]
        if self.chance.random() < 0.2:
            tags[-1] = "void"
        return tuple((tag, tuple(self.chance.randrange(size) for _ in range(counts[tag]))) for tag in tags)


def places(thing, path=()):
    """The paths of indexes of all items inside nested tuples."""
    yield path
    if isinstance(thing, tuple):
        for at, item in enumerate(thing):
            yield from places(item, path + (at,))


def item_at(thing, path):
    for at in path:
        thing = thing[at]
    return thing


def with_item(thing, path, item):
    """Nested tuples with another item at a path of indexes."""
    if path == ():
        return item
    return thing[:path[0]] + (with_item(thing[path[0]], path[1:], item),) + thing[path[0] + 1:]
