"""Sharing: papers with fewer steps, in a set order, held against each other; and uses."""

from proofshare.papers import check_paper_terms, leaning_on, needed_steps, own_steps, shown


def shortened(paper):
    """The paper without what shows something twice and what is not needed."""
    equations = shown(paper)
    book, steps = paper
    standing = [equations.index(equation) for equation in equations]
    made = []
    for step, (left, right) in zip(steps, equations):
        if left == right:
            made.append(("same", left))
        else:
            made.append(leaning_on(step, [standing[own] for own in own_steps(step)]))
    return (book, chosen(made, needed_steps(made, standing[-1])))


def chosen(steps, numbers):
    """The steps of these numbers, leaning on one another by their new numbers."""
    made = {}
    told = []
    for number in numbers:
        made[number] = len(told)
        told.append(renumbered(steps[number], made))
    return tuple(told)


def renumbered(step, made):
    """The step, leaning on the same ones by the numbers that `made` tells for theirs."""
    return leaning_on(step, [made[own] for own in own_steps(step)])


def set_in_order(paper):
    """The paper with its steps in the order in which one is done with them."""
    shown(paper)
    book, steps = paper
    made = {}
    told = []
    waiting = [len(steps) - 1]
    while waiting:
        number = waiting[-1]
        ahead = [own for own in own_steps(steps[number]) if own not in made]
        if ahead:
            waiting.append(ahead[0])
        else:
            step = renumbered(steps[number], made)
            if step not in told:
                told.append(step)
            made[number] = told.index(step)
            waiting.pop()
    return (book, tuple(told))


def told_apart(one, other):
    """The first way at which the papers have steps of other forms, or None."""
    for paper in (one, other):
        check_paper_terms(paper)
    for paper in (one, other):
        shown(paper)
    _, steps = one
    _, others = other
    seen = {}
    waiting = [((), len(steps) - 1, len(others) - 1)]
    while waiting:
        way, number, other_number = waiting.pop()
        # What was gone through from these two steps once has no difference,
        # for the first one that is found ends it all.
        if (number, other_number) not in seen:
            seen[(number, other_number)] = True
            step, other_step = steps[number], others[other_number]
            if form_of(step) != form_of(other_step):
                return way
            pairs = list(zip(own_steps(step), own_steps(other_step)))
            for which in reversed(range(len(pairs))):
                waiting.append((way + (which,),) + pairs[which])
    return None


def form_of(step):
    """The step without the numbers on which it leans, but with how many these are."""
    return leaning_on(step, (0,) * len(own_steps(step)))


def uses(paper):
    """How many moves of the last step's walk are by each rule of the book."""
    shown(paper)
    book, steps = paper
    counts = []
    for step in steps:
        many = [0] * len(book)
        if step[0] == "use":
            many[step[1]] = 1
        for own in own_steps(step):
            many = [here + there for here, there in zip(many, counts[own])]
        counts.append(many)
    return counts[-1]
