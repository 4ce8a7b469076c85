"""The walks as point 8 tells them, move by move, and papers made by chance of a seed that is set."""

from proofshare.errors import NoStep
from proofshare.papers import shown
from tests.helper import NIL, sign, x


def letters_of(term):
    if term[0] == "letter":
        return {term[1]}
    return {name for part in term[2] for name in letters_of(part)}


def put(term, table):
    if term[0] == "letter":
        return table.get(term[1], term)
    return ("sign", term[1], tuple(put(part, table) for part in term[2]))


def changing(rule, table):
    """The filling that point 7 asks for."""
    names = sorted(letters_of(rule[0]) | letters_of(rule[1]))
    return tuple((name, table[name]) for name in names if table.get(name, x(name)) != x(name))


def filled_move(book, move, table):
    place, number, way, filling = move
    rule = book[number]
    whole = {name: x(name) for side in rule for name in letters_of(side)}
    whole.update(dict(filling))
    return (place, number, way, changing(rule, {name: put(term, table) for name, term in whole.items()}))


def done(book, term, move):
    """The term behind a move that fits, of any size."""
    place, number, way, filling = move
    if place:
        parts = list(term[2])
        parts[place[0]] = done(book, parts[place[0]], (place[1:],) + move[1:])
        return (term[0], term[1], tuple(parts))
    table = dict(filling)
    assert filling == changing(book[number], table)
    assert term == put(book[number][way], table)
    return put(book[number][1 - way], table)


def walk_of(book, walks, step):
    """The walk of a step, where those of the elder ones are known."""
    word = step[0]
    if word == "use":
        return [((), step[1], 0, changing(book[step[1]], dict(step[2])))]
    if word == "same":
        return []
    if word == "back":
        return [(place, rule, 1 - way, filling) for place, rule, way, filling in walks[step[1]][::-1]]
    if word == "chain":
        return walks[step[1]] + walks[step[2]]
    if word == "under":
        return [((at,) + move[0],) + move[1:] for at, own in enumerate(step[2]) for move in walks[own]]
    return [filled_move(book, move, dict(step[2])) for move in walks[step[1]]]


def all_walks(paper):
    book, steps = paper
    walks = []
    for step in steps:
        walks.append(walk_of(book, walks, step))
    return walks


def places_of(term):
    yield ()
    if term[0] == "sign":
        for at, part in enumerate(term[2]):
            for place in places_of(part):
                yield (at,) + place


def part_of(term, place):
    for at in place:
        term = term[2][at]
    return term


def match(pattern, term, table):
    """Whether the pattern, filled, is the term; fills the table with what it needs."""
    if pattern[0] == "letter":
        return table.setdefault(pattern[1], term) == term
    if term[:2] != pattern[:2] or len(term[2]) != len(pattern[2]):
        return False
    return all(match(*pair, table) for pair in zip(pattern[2], term[2]))


def chance_move(chance, book, term, most):
    """A move that fits and leads to a term of at most so large a size, or None."""
    place = chance.choice(list(places_of(term)))
    number, way = chance.randrange(len(book)), chance.randrange(2)
    table = {}
    if not match(book[number][way], part_of(term, place), table):
        return None
    for name in sorted(letters_of(book[number][1 - way]) - set(table)):
        table[name] = chance_term(chance)
    move = (place, number, way, changing(book[number], table))
    if len(list(places_of(done(book, term, move)))) > most:
        return None
    return move


def chance_walk(chance, book, term, many, most):
    """So many moves, one behind another, and the last term."""
    moves = []
    while len(moves) < many:
        move = chance_move(chance, book, term, most)
        if move is not None:
            moves.append(move)
            term = done(book, term, move)
    return moves, term


A, B = x("a"), x("b")
CHANCE_BOOK = (
    (sign("plus", A, B), sign("plus", B, A)),
    (sign("two", A, A), A),
    (sign("fst", A, B), A),
    (NIL, sign("s", A)),
    (sign("plus", A, NIL), A),
    (A, sign("s", A)),
)


def chance_term(chance, depth=2):
    if depth == 0 or chance.random() < 0.4:
        return chance.choice([A, B, x("c"), NIL])
    return sign(chance.choice(["s", "plus", "f"]), *[chance_term(chance, depth - 1) for _ in range(chance.randrange(3))])


def chance_filling(chance, names):
    chosen = [name for name in sorted(names) if chance.random() < 0.6]
    return tuple((name, chance.choice([x(name), chance_term(chance)])) for name in chosen)


def chance_step(chance, book, equations):
    """A step that most often fits."""
    word = chance.choice(["use", "use", "same", "back", "chain", "chain", "chain", "chain", "under", "under", "fill", "fill"])
    own = chance.randrange(len(equations)) if equations else 0
    if word == "use" or not equations:
        number = chance.randrange(len(book))
        return ("use", number, chance_filling(chance, letters_of(book[number][0]) | letters_of(book[number][1])))
    if word == "same":
        return ("same", chance.choice([chance_term(chance), *equations[own]]))
    if word == "back":
        return ("back", own)
    if word == "under":
        return ("under", chance.choice(["s", "plus"]), tuple(chance.randrange(len(equations)) for _ in range(chance.randrange(4))))
    if word == "fill":
        left, right = equations[own]
        return ("fill", own, chance_filling(chance, letters_of(left) | letters_of(right)))
    meeting = [at for at, (left, _) in enumerate(equations) if left == equations[own][1]]
    return ("chain", own, chance.choice(meeting or [0]))


def chance_paper(chance, many, book=CHANCE_BOOK, most_moves=60):
    """A paper of so many steps that fit, none of them with a walk of more moves."""
    steps, equations, walks = [], [], []
    while len(steps) < many:
        step = chance_step(chance, book, equations)
        try:
            told = shown((book, tuple(steps) + (step,)))
        except NoStep:
            continue
        walk = walk_of(book, walks, step)
        if len(walk) <= most_moves:
            steps.append(step)
            equations, walks = told, walks + [walk]
    return (book, tuple(steps))
