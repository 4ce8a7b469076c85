"""Texts: terms and papers as they are written, and papers read."""

from proofshare.checks import MOST_PARTS, MOST_RULES, MOST_SIZE, check_term, is_name
from proofshare.errors import BadText
from proofshare.papers import MOST_STEPS, check_paper_terms
from proofshare.terms import parts_below

MOST_NUMBER = 119
MARKS = ("(", ")", ",")


def term_text(term):
    """The term as it is written."""
    check_term(term)
    return write_term(term)


def write_term(term):
    """The same of what is known to be a term."""
    pieces = []
    waiting = [term]
    while waiting:
        part = waiting.pop()
        if isinstance(part, str):
            pieces.append(part)
        elif part[0] == "letter":
            pieces.append("?" + part[1])
        else:
            pieces.append(part[1])
            waiting.extend(marked_backwards(parts_below(part)))
    return "".join(pieces)


def marked_backwards(parts):
    """The parts of a sign and the marks around them, the last one first."""
    told = []
    for part in parts[::-1]:
        told.extend([",", part])
    if told:
        told[0] = ")"
        told.append("(")
    return told


def written(paper):
    """The paper as it is written."""
    check_paper_terms(paper)
    book, steps = paper
    rows = [f"rule {write_term(left)} = {write_term(right)}" for left, right in book]
    rows.extend([" ".join(step_words(step)) for step in steps])
    return "\n".join(rows)


def step_words(step):
    """The words of a step's row."""
    word = step[0]
    if word == "same":
        return [word, write_term(step[1])]
    if word == "under":
        return [word, step[1]] + [write_number(number) for number in step[2]]
    if word in ("use", "fill"):
        return [word, write_number(step[1])] + [f"{name}:{write_term(term)}" for name, term in step[2]]
    return [word] + [write_number(number) for number in step[1:]]


def write_number(number):
    """The number, written in the shortest way."""
    if number < 0:
        return "-" + write_number(-number)
    # Piece by piece, for Python refuses to write numbers of some thousand
    # figures.
    pieces = []
    while number >= 10 ** 18:
        number, low = divmod(number, 10 ** 18)
        pieces.append(str(low).zfill(18))
    pieces.append(str(number))
    return "".join(reversed(pieces))


def read(text):
    """The paper that is written so."""
    rules = []
    steps = []
    for row in text.split("\n"):
        words = row.split(" ")
        if words[0] != "rule":
            steps.append(read_step(words))
        elif not steps:
            rules.append(read_rule(words))
        else:
            raise BadText("a rule stands behind a step")
        if len(rules) > MOST_RULES or len(steps) > MOST_STEPS:
            raise BadText("a paper has at most 20 rules and 120 steps")
    if not steps:
        raise BadText("a paper has a step")
    return (tuple(rules), tuple(steps))


def read_rule(words):
    """The rule of a row."""
    if len(words) != 4 or words[2] != "=":
        raise BadText("a rule is written as rule LEFT = RIGHT")
    return (read_term(words[1]), read_term(words[3]))


def read_step(words):
    """The step of a row."""
    word = words[0]
    if word in ("use", "fill") and len(words) >= 2:
        return (word, read_number(words[1]), read_filling(words[2:]))
    if word == "under" and len(words) >= 2:
        return (word, read_name(words[1]), tuple([read_number(text) for text in words[2:]]))
    if word == "same" and len(words) == 2:
        return (word, read_term(words[1]))
    if word == "back" and len(words) == 2:
        return (word, read_number(words[1]))
    if word == "chain" and len(words) == 3:
        return (word, read_number(words[1]), read_number(words[2]))
    raise BadText("a row is none of a rule or a step")


def read_name(word):
    """The name itself."""
    if not is_name(word):
        raise BadText("a name is one to eight letters a to z")
    return word


def read_number(word):
    """The number that is written so."""
    # Only what is short is made a number, for Python refuses longer texts
    # than some thousand figures in its own way.
    if not 1 <= len(word) <= 3 or not all("0" <= char <= "9" for char in word):
        raise BadText("a number is from 0 to 119")
    number = int(word)
    if number > MOST_NUMBER or str(number) != word:
        raise BadText("a number is from 0 to 119, written in the shortest way")
    return number


def read_filling(words):
    """The filling whose pairs are written so."""
    pairs = []
    last = ""
    for word in words:
        name, _, text = word.partition(":")
        if read_name(name) <= last:
            raise BadText("the names of a filling ascend")
        pairs.append((name, read_term(text)))
        last = name
    return tuple(pairs)


def read_term(word):
    """The term that is written so."""
    tokens = split_marks(word)
    # Each part has a name of its own, so this bounds the recursion as well.
    if len([token for token in tokens if token not in MARKS]) > MOST_SIZE:
        raise BadText("a term has a size of 100 at the most")
    tokens.reverse()
    term = take_term(tokens)
    if tokens:
        raise BadText("something stands behind a term")
    return term


def split_marks(word):
    """The names, with their ? ahead, and the marks of a term, as a list."""
    for mark in MARKS:
        word = word.replace(mark, f" {mark} ")
    return [token for token in word.split(" ") if token != ""]


def take_term(tokens):
    """The term with which the reversed tokens end; its own are taken off."""
    token = take_token(tokens)
    if token.startswith("?"):
        return ("letter", read_name(token[1:]))
    name = read_name(token)
    if not tokens or tokens[-1] != "(":
        return ("sign", name, ())
    parts = []
    while take_token(tokens) != ")":
        parts.append(take_term(tokens))
        if not tokens or tokens[-1] not in (",", ")"):
            raise BadText("a part has no end")
    if len(parts) > MOST_PARTS:
        raise BadText("a sign has at most three parts")
    return ("sign", name, tuple(parts))


def take_token(tokens):
    """The last one of the reversed tokens, which is taken off, or an empty text."""
    if not tokens:
        return ""
    return tokens.pop()
