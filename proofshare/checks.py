"""What is a name, a term, a filling and a book: anything else is refused with BadTerm."""

from proofshare.errors import BadTerm

MOST_NAME = 8
MOST_PARTS = 3
MOST_SIZE = 100
MOST_RULES = 20


def is_name(name):
    """Whether this is a text of one to eight letters a to z."""
    if not isinstance(name, str) or not 1 <= len(name) <= MOST_NAME:
        return False
    return all("a" <= char <= "z" for char in name)


def check_name(name):
    """Refuse what is no name."""
    if not is_name(name):
        raise BadTerm("a name is one to eight letters a to z")


def parts_of(term):
    """The parts of a sign, none for a letter; what looks like neither is refused."""
    if isinstance(term, tuple) and len(term) == 2 and term[0] == "letter":
        check_name(term[1])
        return ()
    if isinstance(term, tuple) and len(term) == 3 and term[0] == "sign":
        check_name(term[1])
        parts = term[2]
        if isinstance(parts, tuple) and len(parts) <= MOST_PARTS:
            return parts
    raise BadTerm("a term is a letter, or a sign with a tuple of none to three parts")


def check_term(term):
    """Refuse what is no term.

    It goes without recursion and ends at the size that is too much, for what
    is handed in may be nested as deep, or shared as often, as it likes.
    """
    waiting = [term]
    many = 0
    while waiting:
        many = many + 1
        if many > MOST_SIZE:
            raise BadTerm("a term has a size of 100 at the most")
        part = waiting.pop()
        waiting.extend(parts_of(part))


def check_pair(pair, last):
    """Refuse what is no pair of a filling behind the name `last`."""
    if not isinstance(pair, tuple) or len(pair) != 2:
        raise BadTerm("a filling holds pairs of a name and a term")
    check_name(pair[0])
    if pair[0] <= last:
        raise BadTerm("the names of a filling ascend")
    check_term(pair[1])


def check_filling(filling):
    """Refuse what is no filling."""
    if not isinstance(filling, tuple):
        raise BadTerm("a filling is a tuple")
    last = ""
    for pair in filling:
        check_pair(pair, last)
        last = pair[0]


def check_rule(rule):
    """Refuse what is no rule."""
    if not isinstance(rule, tuple) or len(rule) != 2:
        raise BadTerm("a rule is a pair of terms")
    check_term(rule[0])
    check_term(rule[1])


def check_book(book):
    """Refuse what is no book."""
    if not isinstance(book, tuple) or len(book) > MOST_RULES:
        raise BadTerm("a book is a tuple of none to twenty rules")
    for rule in book:
        check_rule(rule)
