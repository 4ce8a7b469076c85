"""Folding: a paper of a walk."""

from proofshare.errors import TooLong
from proofshare.papers import MOST_STEPS
from proofshare.terms import is_too_large
from proofshare.walks import walked


def folded(book, term, moves):
    """A paper whose last step has just this walk."""
    terms = walked(book, term, moves)
    draft = Draft()
    draft.fold(terms, list(moves), 0)
    return (book, tuple(draft.steps))


class Draft:
    """The steps of the paper that is made.

    A walk is cut into runs: a move at the whole term, or moves below it that
    a sign over folded walks of its parts tells in their order. The terms of a
    walk under signs are its own; its moves are those of the whole walk, whose
    places begin with as many numbers as there are signs, `depth`.
    """

    def __init__(self):
        self.steps = []

    def put(self, step):
        """The number of the step, which is added where there is none like it."""
        if step in self.steps:
            return self.steps.index(step)
        if len(self.steps) == MOST_STEPS:
            raise TooLong("the paper of this walk would have too many steps")
        self.steps.append(step)
        return len(self.steps) - 1

    def fold(self, terms, moves, depth):
        """The number of a step with this walk."""
        # Each sign above is a step to come, so this one would be one too many;
        # told here, it also keeps off too deep a recursion.
        if depth == MOST_STEPS:
            raise TooLong("the paper of this walk would have too many steps")
        if not moves:
            return self.put(("same", terms[0]))
        numbers = []
        at = 0
        while at < len(moves):
            end = run_end(moves, at, depth)
            numbers.append(self.fold_run(terms[at:end + 1], moves[at:end], depth))
            at = end
        return self.chain(numbers)

    def fold_run(self, terms, moves, depth):
        """The number of a step with this walk, which is one run."""
        # The first term is one that was handed in, a part of what is small
        # enough, or the last term of the run ahead.
        if is_too_large(terms[-1]):
            raise TooLong("the paper of this walk would have too large a side")
        place, rule, way, filling = moves[0]
        if len(place) == depth:
            number = self.put(("use", rule, filling))
            return number if way == 0 else self.put(("back", number))
        numbers = []
        at = 0
        for part in range(len(terms[0][2])):
            end = at
            while end < len(moves) and moves[end][0][depth] == part:
                end = end + 1
            inner = [term[2][part] for term in terms[at:end + 1]]
            numbers.append(self.fold(inner, moves[at:end], depth + 1))
            at = end
        return self.put(("under", terms[0][1], tuple(numbers)))

    def chain(self, numbers):
        """The number of a step that has the walks of these steps, one behind another."""
        while len(numbers) > 1:
            # The pair that stands most often, for then its one step does most.
            pair = most_frequent_pair(numbers)
            numbers = joined(numbers, pair, self.put(("chain",) + pair))
        return numbers[0]


def run_end(moves, at, depth):
    """Where the run that begins at this move ends."""
    end = at + 1
    while end < len(moves) and follows(moves[end - 1][0], moves[end][0], depth):
        end = end + 1
    return end


def follows(elder, place, depth):
    """Whether a move at this place goes on with the run of the move ahead of it."""
    if len(elder) == depth or len(place) == depth:
        return False
    return elder[depth] <= place[depth]


def most_frequent_pair(numbers):
    """The two neighbours that stand most often beside each other, the first of such."""
    counts = {}
    for pair in zip(numbers, numbers[1:]):
        counts[pair] = counts.get(pair, 0) + 1
    return max(counts, key=lambda neighbours: counts[neighbours])


def joined(numbers, pair, number):
    """The numbers with this one in the place of each such pair."""
    told = []
    at = 0
    while at < len(numbers):
        if tuple(numbers[at:at + 2]) == pair:
            told.append(number)
            at = at + 2
        else:
            told.append(numbers[at])
            at = at + 1
    return told
