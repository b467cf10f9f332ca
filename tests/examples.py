"""The definitions of the document's examples, and values of every kind for wrong inputs."""

SIGN = (("cons", 2), ("end", 0), ("one", 0), ("two", 0))
ONES = (("cons", (1, 0)), ("one", ()))
TURNS = (("cons", (1, 2)), ("one", ()), ("cons", (3, 0)), ("two", ()))
SHORT = (("cons", (1, 2)), ("two", ()), ("end", ()))
LONG = (("cons", (2, 1)), ("cons", (2, 0)), ("one", ()))

A, B = ("part", "a"), ("part", "b")
ONE, TWO = ("tag", "one", ()), ("tag", "two", ())
REST = ("call", "swap", (B,))
SWAP = ("if", ("is", A, "one"), ("tag", "cons", (TWO, REST)), ("tag", "cons", (ONE, REST)))
MAKERS = ("make", (("swap", ("x",), 0, ("case", "x", (("cons", ("a", "b"), SWAP),), ("part", "x"))),))
EVERY = ("case", "a", (("one", (), ("call", "every", (B,))),), ("no",))
SOME = ("case", "a", (("two", (), ("yes",)),), ("call", "some", (B,)))
EVERY_ONE = ("every", ("x",), 0, ("case", "x", (("cons", ("a", "b"), EVERY),), ("yes",)))
SOME_TWO = ("some", ("x",), 1, ("case", "x", (("cons", ("a", "b"), SOME),), ("no",)))
TESTS = ("test", (EVERY_ONE, SOME_TWO))
ITEMS = ("case", "x", (("cons", ("a", "b"), ("union", ("root", "a"), ("call", "items", (B,)))),), ("none",))
FAR = ("case", "a", (("two", (), ("number", 0)),), ("plus", 1, ("call", "far", (B,))))
MEASURES = ("measure", (("far", ("x",), 0, ("case", "x", (("cons", ("a", "b"), FAR),), ("never",))),))
PROGRAM = (SIGN, (MAKERS, TESTS, ("gather", (("items", ("x",), 0, ITEMS),)), MEASURES))


def nested(depth, kind):
    thing = kind()
    for _ in range(depth):
        thing = {"a": thing} if kind is dict else kind([thing])
    return thing


ANYTHING = [
    None, True, False, 0, 1, -1, 3, 10 ** 40 - 1, -10 ** 39, "", "cons", "void", "a\nb", "~ !", "x" * 2000,
    (), [], {}, (()), ((),), [()], ([],), ({},), (None,), (True,), (0,), ("cons",), ("cons", 2), ["cons", 2],
    (("cons", 2, 2),), (("cons",),), (["cons", 2],), [("cons", 2)], {"cons": 2}, ({"cons": 2},), "cons 2",
    (("cons", "2"),), (("cons", None),), (("cons", [2]),), ((["cons"], 2),), (({}, 2),), ((("cons",), 2),),
    ((None, 0),), ((0, 0),), ((True, 0),), ("cons", (0, 0)), (("cons", [0, 0]),), (["one", ()],),
    [("one", ())], ((["one"], ()),), (({"one": 1}, ()),), (("one", {}),), (("one", None),), (("one", ""),),
    (("one", ()), None), (("one", ()), ()), (("one", (), ()),), (("cons", ("0", "0")),), (("cons", (None, 0)),),
    (("cons", ((0,), 0)),), (("cons", ([0], {})),), (("cons", {0: 1, 1: 1}),), (("cons", "00"),),
    nested(30, tuple), nested(30, list), nested(30, dict), tuple([None] * 9999), list(range(9999)),
    {str(at): [at] for at in range(3000)}, tuple([("cons", [at, {}]) for at in range(2000)]),
]
