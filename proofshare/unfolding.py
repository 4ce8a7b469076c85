"""Unfolding: the moves and the terms of a step's walk, told by their numbers."""

from proofshare.errors import TooLong
from proofshare.papers import needed_steps, own_steps, shown
from proofshare.terms import names_in, parts_below


class Nodes:
    """Terms by numbers.

    Within a walk a filling may double what an earlier one has doubled, so its
    terms may be far too large to be gone through part by part, and deeper than
    Python's stack. Here each term that stands in them is kept once, behind its
    own parts, and filled once.
    """

    def __init__(self):
        self.forms = []
        self.numbers = {}
        self.tuples = {}

    def put(self, word, name, parts):
        """The number of the letter or sign of this name with parts of these numbers."""
        form = (word, name, parts)
        if form not in self.numbers:
            self.numbers[form] = len(self.forms)
            self.forms.append(form)
        return self.numbers[form]

    def take_in(self, term):
        """The number of a term."""
        parts = [self.take_in(part) for part in parts_below(term)]
        return self.put(term[0], term[1], tuple(parts))

    def take_in_filling(self, filling):
        """A dict that tells the number of the filling's term for each of its names."""
        return {name: self.take_in(term) for name, term in filling}

    def reached(self, node):
        """The numbers of all that stands in a term, parts ahead of what they stand in."""
        seen = {node: True}
        waiting = [node]
        while waiting:
            _, _, parts = self.forms[waiting.pop()]
            for part in parts:
                if part not in seen:
                    seen[part] = True
                    waiting.append(part)
        return sorted(seen)

    def fill(self, node, table):
        """The number of the term with those of the table in the place of its letters."""
        made = {}
        for part in self.reached(node):
            word, name, parts = self.forms[part]
            if word == "letter":
                made[part] = table.get(name, part)
            else:
                made[part] = self.put("sign", name, tuple([made[inner] for inner in parts]))
        return made[node]

    def tell(self, node):
        """The term of this number."""
        if node not in self.tuples:
            for part in self.reached(node):
                word, name, parts = self.forms[part]
                if word == "letter":
                    self.tuples[part] = ("letter", name)
                else:
                    self.tuples[part] = ("sign", name, tuple([self.tuples[inner] for inner in parts]))
        return self.tuples[node]


class Mover:
    """Carries moves outwards from step to step; their fillings hold numbers of nodes."""

    def __init__(self, names, steps):
        self.names = names
        self.steps = steps
        self.nodes = Nodes()
        self.tables = {}
        self.fillings = {}

    def begin(self, number):
        """The one move of a use."""
        _, rule, filling = self.steps[number]
        return ((), rule, 0, self.changing(rule, self.nodes.take_in_filling(filling)))

    def changing(self, rule, table):
        """The filling of a move by the rule: no letter in it is filled by itself."""
        filling = []
        for name in self.names[rule]:
            alone = self.nodes.put("letter", name, ())
            node = table.get(name, alone)
            if node != alone:
                filling.append((name, node))
        return tuple(filling)

    def carry(self, move, number, which):
        """A move of the step's own step `which`, as the step of this number has it."""
        word = self.steps[number][0]
        place, rule, way, filling = move
        if word == "back":
            return (place, rule, 1 - way, filling)
        if word == "under":
            return ((which,) + place, rule, way, filling)
        if word == "fill":
            return (place, rule, way, self.filled_once(number, rule, filling))
        return move

    def filled_once(self, number, rule, filling):
        """The filling, filled as the step of this number does it."""
        key = (number, rule, filling)
        if key not in self.fillings:
            self.fillings[key] = self.filled_by(number, rule, filling)
        return self.fillings[key]

    def filled_by(self, number, rule, filling):
        """The same, where it was not asked before."""
        if number not in self.tables:
            self.tables[number] = self.nodes.take_in_filling(self.steps[number][2])
        table = self.tables[number]
        # What the filling leaves alone is filled, too.
        whole = {name: self.nodes.put("letter", name, ()) for name in self.names[rule]}
        for name, node in filling:
            whole[name] = node
        return self.changing(rule, {name: self.nodes.fill(node, table) for name, node in whole.items()})

    def tell(self, move):
        """The move with the terms themselves in its filling."""
        place, rule, way, filling = move
        return (place, rule, way, tuple([(name, self.nodes.tell(node)) for name, node in filling]))


class Unfolding:
    """The walks of a paper's steps."""

    def __init__(self, paper):
        self.equations = shown(paper)
        book, self.steps = paper
        self.names = [rule_letters(rule) for rule in book]
        self.lengths = walk_lengths(self.steps)

    def length(self, I):
        """How many moves the walk of step I has."""
        return self.lengths[I]

    def move(self, I, k):
        """Move k of the walk of step I, or None where there is no such move."""
        if not 0 <= k < self.lengths[I]:
            return None
        outer = []
        while self.steps[I][0] != "use":
            if self.steps[I][0] == "back":
                k = self.lengths[I] - 1 - k
            which, k = self.inwards(I, k)
            outer.append((I, which))
            I = own_steps(self.steps[I])[which]
        mover = Mover(self.names, self.steps)
        told = mover.begin(I)
        for number, which in reversed(outer):
            told = mover.carry(told, number, which)
        return mover.tell(told)

    def term(self, I, k):
        """The term behind the first k moves, or None where there are fewer."""
        if not 0 <= k <= self.lengths[I]:
            return None
        outer = []
        while 0 < k < self.lengths[I]:
            if self.steps[I][0] == "back":
                k = self.lengths[I] - k
            which, k = self.inwards(I, k)
            outer.append((I, which))
            I = own_steps(self.steps[I])[which]
        nodes = Nodes()
        left, right = self.equations[I]
        node = nodes.take_in(left if k == 0 else right)
        for number, which in reversed(outer):
            node = self.outwards(nodes, node, number, which)
        return nodes.tell(node)

    def walk(self, I, most):
        """The list of all moves of the walk of step I."""
        if self.lengths[I] > most:
            raise TooLong("the walk has more moves than the most that may be")
        mover = Mover(self.names, self.steps)
        walks = {}
        for number in needed_steps(self.steps, I):
            walks[number] = self.moves_of(mover, walks, number)
        return [mover.tell(move) for move in walks[I]]

    def moves_of(self, mover, walks, number):
        """The moves of a step, where those of its own steps are known."""
        step = self.steps[number]
        if step[0] == "use":
            return [mover.begin(number)]
        moves = []
        for which, own in enumerate(own_steps(step)):
            moves.extend([mover.carry(move, number, which) for move in walks[own]])
        if step[0] == "back":
            moves.reverse()
        return moves

    def inwards(self, number, k):
        """Which of the step's own steps has its move k, and which of that one's moves it is."""
        own = own_steps(self.steps[number])
        which = 0
        while k >= self.lengths[own[which]]:
            k = k - self.lengths[own[which]]
            which = which + 1
        return (which, k)

    def outwards(self, nodes, node, number, which):
        """A term of the walk of the step's own step `which`, as the step of this number has it."""
        step = self.steps[number]
        if step[0] == "fill":
            return nodes.fill(node, nodes.take_in_filling(step[2]))
        if step[0] == "under":
            parts = [nodes.take_in(self.equations[own][1]) for own in step[2][:which]]
            parts.append(node)
            parts.extend([nodes.take_in(self.equations[own][0]) for own in step[2][which + 1:]])
            return nodes.put("sign", step[1], tuple(parts))
        return node


def rule_letters(rule):
    """The names of the letters of both sides, ascending."""
    left, right = rule
    return sorted({**names_in(left), **names_in(right)})


def walk_lengths(steps):
    """How many moves the walk of each step has."""
    lengths = []
    for step in steps:
        if step[0] == "use":
            lengths.append(1)
        else:
            lengths.append(sum([lengths[own] for own in own_steps(step)]))
    return lengths
