"""Terms and papers for the tests, and values that are no terms, fillings or books."""


def x(name):
    return ("letter", name)


def sign(name, *parts):
    return ("sign", name, parts)


def fill(**terms):
    """A filling."""
    return tuple(sorted(terms.items()))


def tower(many, inner):
    """`inner` under `many` signs, one in the other."""
    for _ in range(many):
        inner = ("sign", "s", (inner,))
    return inner


def shared_tower(many):
    """A term of size 2 ** (many + 1) - 1 that is made of few tuples."""
    term = sign("nil")
    for _ in range(many):
        term = sign("two", term, term)
    return term


def doubling(times):
    """Steps of which the last one shows rule 0 turned round at its end, by 2 ** times moves."""
    steps = [("use", 0, ())]
    for _ in range(times):
        last = len(steps) - 1
        steps.extend([("back", last), ("chain", last, last + 1)])
    return tuple(steps)


def idle(many):
    """Steps without a move."""
    return (("same", NIL),) * many


NIL = sign("nil")
SIZE_100 = tower(99, NIL)
SIZE_101 = tower(100, NIL)

BAD_NAMES = ["", "abcdefghi", "A", "aB", "a1", "a_b", "a b", "a\n", "\u00e9", "\u00df", "{", "`", "?x", 7, None, b"ab", ("a",)]

BAD_TERMS = [
    None,
    5,
    "x",
    "letter",
    (),
    ("letter",),
    ("letter", "x", ()),
    ["letter", "x"],
    ("sign", "f"),
    ("sign", "f", (), ()),
    ["sign", "f", ()],
    ("sign", "f", []),
    ("sign", "f", [x("a")]),
    ("sign", "f", None),
    ("sign", "f", "ab"),
    ("sign", "f", {}),
    ("sign", "f", (NIL, NIL, NIL, NIL)),
    ("sign", "f", ("letter", "x")),
    ("sign", "f", (x("a"), None)),
    ("sign", "f", (NIL, sign("g", NIL, ("letter", 3)))),
    ("Letter", "x"),
    ("sign", "x"),
    ("letter", "f", (NIL,)),
    ("other", "x"),
    ("other", "f", ()),
    (None, "x"),
    SIZE_101,
    tower(100, x("a")),
    sign("f", SIZE_100),
    shared_tower(6),
    shared_tower(5000),
    tower(100000, NIL),
] + [("letter", name) for name in BAD_NAMES] + [("sign", name, ()) for name in BAD_NAMES]

BAD_FILLINGS = [
    None,
    3,
    "",
    "x",
    [],
    {},
    [("a", NIL)],
    {"a": NIL},
    (("a",),),
    (("a", NIL, NIL),),
    (["a", NIL],),
    ("ab",),
    (None,),
    ("a", NIL),
    (("b", NIL), ("a", NIL)),
    (("a", NIL), ("c", NIL), ("b", NIL)),
    (("a", NIL), ("a", NIL)),
    (("a", NIL), ("a", x("b"))),
    (("a", NIL), ("b", NIL), ("b", NIL)),
    (("b", NIL), ("ab", NIL)),
] + [((name, NIL),) for name in BAD_NAMES] + [(("a", NIL), ("b", term)) for term in BAD_TERMS]

RULE = (x("a"), x("a"))

BAD_BOOKS = [
    None,
    1,
    "",
    [],
    {},
    [RULE],
    (RULE,) * 21,
    RULE,
    ((NIL,),),
    ((NIL, NIL, NIL),),
    ([NIL, NIL],),
    (None,),
    (RULE, "ab"),
] + [((NIL, term),) for term in BAD_TERMS] + [(RULE, (term, NIL)) for term in BAD_TERMS]
