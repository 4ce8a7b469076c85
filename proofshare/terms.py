"""Terms: their sizes, letters, fillings and places.

The first four functions check what they are handed; the others are for terms
that are known to be such, and of any size.
"""

from proofshare.checks import MOST_SIZE, check_filling, check_term


def size(term):
    """How many letters and signs stand in the term."""
    check_term(term)
    return count_nodes(term)


def letters(term):
    """The names of the letters in the term, ascending, each once."""
    check_term(term)
    return sorted(names_in(term))


def filled(term, filling):
    """The term with the filling's terms in the place of its letters, all at once."""
    check_term(term)
    check_filling(filling)
    return put_in(term, table_of(filling))


def part_at(term, place):
    """The term at the place, or None where there is no such place."""
    check_term(term)
    return find_part(term, place)


def parts_below(term):
    """The parts of a sign, none for a letter."""
    if term[0] == "letter":
        return ()
    return term[2]


def count_nodes(term):
    """The size of a term."""
    waiting = [term]
    many = 0
    while waiting:
        many = many + 1
        part = waiting.pop()
        waiting.extend(parts_below(part))
    return many


def is_too_large(term):
    """Whether the size is above 100.

    It ends at the size that is too much, for a walk may lead to terms that
    are far larger.
    """
    waiting = [term]
    many = 0
    while waiting and many <= MOST_SIZE:
        many = many + 1
        part = waiting.pop()
        waiting.extend(parts_below(part))
    return many > MOST_SIZE


def names_in(term):
    """A dict with the names of the term's letters as keys."""
    names = {}
    waiting = [term]
    while waiting:
        part = waiting.pop()
        if part[0] == "letter":
            names[part[1]] = True
        waiting.extend(parts_below(part))
    return names


def table_of(filling):
    """A dict that tells the filling's term for each of its names."""
    return {name: term for name, term in filling}


def put_in(term, table):
    """The term with those of the table in the place of its letters."""
    if term[0] == "letter":
        return table.get(term[1], term)
    return ("sign", term[1], tuple([put_in(part, table) for part in term[2]]))


def has_names(equation, filling):
    """Whether each name of the filling is a letter of one of the two sides."""
    left, right = equation
    names = {**names_in(left), **names_in(right)}
    return all(pair[0] in names for pair in filling)


def find_part(term, place):
    """The term at the place, or None."""
    for number in place:
        parts = parts_below(term)
        if not 0 <= number < len(parts):
            return None
        term = parts[number]
    return term
