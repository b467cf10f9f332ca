"""Programs with plain makers, bare makers and plain functions, made by chance from a seed."""

from tests.randomprograms import NAMES, SIGNATURES, Maker

WORDS = {"test": ["and", "or"], "gather": ["union"], "measure": ["least", "most", "plus"]}


class PlainMaker(Maker):
    """Makes programs of plain functions; the same seed makes the same ones.

    Their groups: one of tests of all kinds, some of plain makers, some of bare makers and some of plain functions.
    """

    def program(self, plain=1, bare=1, sorts=("test", "gather", "measure"), most=3, signature=None):
        self.signature = signature or self.chance.choice(SIGNATURES[2:])
        self.counts = dict(self.signature, void=0)
        self.free = self.chance.sample(NAMES, 28)
        self.earlier = []
        self.made = [self.group("test", 1, self.tester)]
        # Calls of earlier makers would not be plain.
        self.earlier = list(self.own)
        self.plain = [self.add("make", most, self.plainly) for _ in range(plain)]
        self.bare = [self.add("make", most, self.barely) for _ in range(bare)]
        self.users = [self.add(sort, most, self.using) for sort in sorts]
        return self.signature, tuple(self.made)

    def add(self, sort, most, write):
        """Add a group and return the names of its functions."""
        self.made.append(self.group(sort, most, write))
        return [entry[1] for entry in self.own]

    def group(self, sort, most, write):
        self.sort = sort
        heads = []
        for _ in range(self.chance.randint(1, most)):
            params = (self.chance.choice(NAMES),)
            heads.append((self.free.pop(), params, self.chance.randint(0, 9) if sort == "test" else 0))
        self.own = [(sort, name, 1) for name, _, _ in heads]
        return sort, tuple(head + (write(list(head[1])),) for head in heads)

    def tester(self, names):
        return self.case(names, 2)

    def branches(self, names, write):
        found = []
        for tag in [tag for tag, count in self.signature if self.chance.random() < 0.6 + count / 3]:
            fields = tuple(self.chance.sample(NAMES, self.counts[tag]))
            found.append((tag, fields, write(list(fields) * 4 + names)))
        return tuple(found)

    def plainly(self, names, depth=3):
        """The body of a plain maker."""
        roll = self.chance.random()
        if depth > 0 and roll < (0.9 if depth == 3 else 0.25):
            branches = self.branches(names, lambda known: self.plainly(known, depth - 1))
            return "case", self.chance.choice(names), branches, self.plainly(names, depth - 1)
        if depth > 0 and roll < 0.4:
            sides = [self.plainly(names, depth - 1) for _ in range(2)]
            return "if", self.condition(names, 2), *sides
        return self.plain_term(names, self.chance.randint(0, 2))

    def plain_term(self, names, depth):
        roll = self.chance.random()
        if depth > 0 and roll < 0.6:
            tag = self.chance.choice(self.heavy_tags())
            return "tag", tag, tuple(self.plain_term(names, depth - 1) for _ in range(self.counts[tag]))
        if roll < 0.8:
            return self.own_call(names)
        return "part", self.chance.choice(names)

    def heavy_tags(self):
        """The tags, those with fields more often."""
        return [tag for tag in sorted(self.counts) for _ in range(1 + 2 * self.counts[tag])]

    def barely(self, names):
        """The body of a bare maker."""
        if self.chance.random() < 0.15:
            return self.plain_term(names, 2)
        branches = self.branches(names, lambda known: self.plain_term(known, self.chance.randint(0, 2)))
        return "case", self.chance.choice(names), branches, self.plain_term(names, 1)

    def using(self, names, depth=4, cases=2):
        """The body of a plain function."""
        roll = self.chance.random()
        if cases > 0 and depth > 0 and roll < (0.75 if depth == 4 else 0.35):
            branches = self.branches(names, lambda known: self.using(known, depth - 1, cases - 1))
            return "case", self.chance.choice(names), branches, self.using(names, depth - 1, cases - 1)
        if depth > 0 and roll < 0.65:
            word = self.chance.choice(WORDS[self.sort])
            if word == "plus":
                return "plus", self.chance.choice([0, 0, 1, 2, 99]), self.using(names, depth - 1, cases)
            return word, self.using(names, depth - 1, cases), self.using(names, depth - 1, cases)
        if roll < 0.9:
            return self.own_call(names)
        return self.chance.choice({
            "test": [("yes",), ("no",)],
            "gather": [("none",), ("one", self.chance.choice(sorted(self.counts)))]
            + [("root", name) for name in names],
            "measure": [("never",), ("number", self.chance.choice([0, 1, 99]))],
        }[self.sort])
