"""Papers: what their steps show, which steps do not fit, and on which ones a step leans.

The functions behind `check_sides` are for steps that are known to fit.
"""

from proofshare.checks import MOST_PARTS, check_book, check_filling, check_name, check_term
from proofshare.errors import NoStep
from proofshare.terms import has_names, is_too_large, put_in, table_of

MOST_STEPS = 120


def shown(paper):
    """The equations that the steps show, in the order of the steps."""
    check_paper_terms(paper)
    book, steps = paper
    if not 1 <= len(steps) <= MOST_STEPS:
        raise NoStep(0, "steps")
    equations = []
    for step in steps:
        show = FORMS[step[0]]
        equations.append(show(book, equations, step))
    return equations


def check_paper_terms(paper):
    """Refuse a paper in which something is no term, filling, book or sign's name."""
    book, steps = paper
    check_book(book)
    for step in steps:
        check_step_terms(step)


def check_step_terms(step):
    """Refuse a step in which something is no term, filling or sign's name."""
    word = step[0]
    if word == "same":
        check_term(step[1])
    elif word == "under":
        check_name(step[1])
    elif word in ("use", "fill"):
        check_filling(step[2])


# Each function below tells what a step shows. `elder` holds what the steps
# before it show, so its length is the step's own number. The order of the
# checks in them is the order of the words in DOC.md.


def show_use(book, elder, step):
    """A rule with both sides filled."""
    check_numbers((step[1],), len(book), elder)
    return fill_sides(book[step[1]], step[2], elder)


def show_same(book, elder, step):
    """A term and itself."""
    return (step[1], step[1])


def show_back(book, elder, step):
    """What an elder step shows, turned round."""
    check_numbers((step[1],), len(elder), elder)
    left, right = elder[step[1]]
    return (right, left)


def show_chain(book, elder, step):
    """The left side of one elder step and the right side of another that it meets."""
    check_numbers((step[1], step[2]), len(elder), elder)
    left, middle = elder[step[1]]
    other, right = elder[step[2]]
    if middle != other:
        raise NoStep(len(elder), "meet")
    return (left, right)


def show_under(book, elder, step):
    """A sign over the left sides of elder steps, and over their right sides."""
    name, numbers = step[1], step[2]
    check_numbers(numbers, len(elder), elder)
    if len(numbers) > MOST_PARTS:
        raise NoStep(len(elder), "many")
    left = ("sign", name, tuple([elder[number][0] for number in numbers]))
    right = ("sign", name, tuple([elder[number][1] for number in numbers]))
    return check_sides((left, right), elder)


def show_fill(book, elder, step):
    """What an elder step shows, with both sides filled."""
    check_numbers((step[1],), len(elder), elder)
    return fill_sides(elder[step[1]], step[2], elder)


FORMS = {
    "use": show_use,
    "same": show_same,
    "back": show_back,
    "chain": show_chain,
    "under": show_under,
    "fill": show_fill,
}


def check_numbers(numbers, many, elder):
    """Refuse a step that names a number that is not from 0 to below `many`."""
    for number in numbers:
        if not 0 <= number < many:
            raise NoStep(len(elder), "number")


def fill_sides(equation, filling, elder):
    """The equation with both sides filled; refuses other letters, and sides too large."""
    if not has_names(equation, filling):
        raise NoStep(len(elder), "letter")
    table = table_of(filling)
    left, right = equation
    return check_sides((put_in(left, table), put_in(right, table)), elder)


def check_sides(equation, elder):
    """The equation itself, where none of its sides is too large."""
    left, right = equation
    if is_too_large(left) or is_too_large(right):
        raise NoStep(len(elder), "size")
    return equation


def own_steps(step):
    """The numbers of the steps on which the step leans, in their order."""
    word = step[0]
    if word in ("back", "fill"):
        return (step[1],)
    if word == "chain":
        return (step[1], step[2])
    if word == "under":
        return step[2]
    return ()


def leaning_on(step, numbers):
    """The same step, leaning on the steps of these numbers instead."""
    word = step[0]
    if word == "back":
        return ("back", numbers[0])
    if word == "chain":
        return ("chain", numbers[0], numbers[1])
    if word == "under":
        return ("under", step[1], tuple(numbers))
    if word == "fill":
        return ("fill", numbers[0], step[2])
    return step


def needed_steps(steps, last):
    """The numbers of the steps that the last one needs, ascending."""
    needs = [False] * last + [True]
    for number in reversed(range(last + 1)):
        if needs[number]:
            for own in own_steps(steps[number]):
                needs[own] = True
    return [number for number in range(last + 1) if needs[number]]
