"""Walks: a term, and moves done one behind another."""

from proofshare.checks import check_book, check_filling, check_term
from proofshare.errors import NoMove
from proofshare.terms import find_part, has_names, put_in, table_of


def walked(book, term, moves):
    """All terms of the walk, the first one too."""
    check_book(book)
    check_term(term)
    for move in moves:
        check_filling(move[3])
    terms = [term]
    for number, move in enumerate(moves):
        term = moved(book, term, move)
        if term is None:
            raise NoMove(number)
        terms.append(term)
    return terms


def moved(book, term, move):
    """The term behind the move, or None where the move does not fit."""
    place, number, way, filling = move
    if not 0 <= number < len(book) or way not in (0, 1):
        return None
    rule = book[number]
    if not changes_letters(rule, filling):
        return None
    table = table_of(filling)
    if find_part(term, place) != put_in(rule[way], table):
        return None
    return replaced(term, place, put_in(rule[1 - way], table))


def changes_letters(rule, filling):
    """Whether the filling has letters of the rule only, and none filled by itself."""
    if not has_names(rule, filling):
        return False
    return all(term != ("letter", name) for name, term in filling)


def replaced(term, place, part):
    """The term with another part at the place."""
    signs = []
    for number in place:
        signs.append(term)
        term = term[2][number]
    # From the innermost sign outwards, without recursion: a walk may lead to
    # terms that are deeper than Python's stack.
    for at in reversed(range(len(place))):
        number = place[at]
        _, name, parts = signs[at]
        part = ("sign", name, parts[:number] + (part,) + parts[number + 1:])
    return part
