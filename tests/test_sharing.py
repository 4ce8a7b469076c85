"""Points 10 to 13: papers shortened, set in order and told apart, and uses."""

import copy
import random
import unittest

from proofshare.papers import shown
from proofshare.sharing import set_in_order, shortened, told_apart, uses
from proofshare.unfolding import Unfolding
from tests.helper import NIL, doubling, fill, idle, sign, tower, x
from tests.naive import all_walks, chance_paper

A, B = x("a"), x("b")
PLUS_NIL = (sign("plus", A, NIL), A)
SWAP = (sign("plus", A, B), sign("plus", B, A))
TWICE = (sign("two", A, A), sign("two", A, A))
BOOK = (PLUS_NIL, SWAP, TWICE, PLUS_NIL)


def s(term):
    return sign("s", term)


def chance_papers(many, most=25):
    for seed in range(many):
        chance = random.Random(seed)
        yield seed, chance_paper(chance, chance.randrange(1, most))


def owns(step):
    if step[0] in ("back", "fill"):
        return [step[1]]
    if step[0] == "chain":
        return [step[1], step[2]]
    return list(step[2]) if step[0] == "under" else []


def needs(steps, number):
    """The numbers of the steps that this one needs."""
    return {number}.union(*[needs(steps, own) for own in owns(steps[number])])


class Shortened(unittest.TestCase):
    def short(self, steps, expected, book=BOOK):
        paper = (book, tuple(steps))
        told = shortened(paper)
        self.assertEqual(told, (book, tuple(expected)))
        self.assertEqual(shortened(told), told)
        self.assertEqual(shown(told)[-1], shown(paper)[-1])

    def test_what_has_nothing_to_shorten_stays(self):
        for steps in (
            [("use", 0, ())],
            [("same", A)],
            [("use", 0, fill(a=B)), ("back", 0)],
            [("use", 1, ()), ("use", 0, ()), ("fill", 0, fill(a=NIL, b=A)), ("chain", 2, 1), ("back", 3), ("under", "f", (0, 4, 0))],
        ):
            self.short(steps, steps)

    def test_a_step_that_shows_a_term_and_itself(self):
        self.short([("use", 2, ())], [("same", TWICE[0])])
        self.short([("use", 1, fill(a=B))], [("same", sign("plus", B, B))])
        self.short([("under", "nil", ())], [("same", NIL)])
        self.short([("use", 2, fill(a=NIL))], [("same", sign("two", NIL, NIL))])

    def test_such_a_step_leans_on_none_any_more(self):
        self.short([("use", 0, ()), ("back", 0), ("chain", 0, 1)], [("same", PLUS_NIL[0])])
        self.short([("same", A), ("back", 0)], [("same", A)])
        self.short([("same", A), ("under", "s", (0,)), ("fill", 1, fill(a=B))], [("same", s(B))])
        self.short([("use", 1, ()), ("fill", 0, fill(a=B))], [("same", sign("plus", B, B))])

    def test_such_a_step_within(self):
        steps = [("use", 0, ()), ("use", 2, ()), ("under", "f", (0, 1))]
        self.short(steps, [("use", 0, ()), ("same", TWICE[0]), ("under", "f", (0, 1))])

    def test_what_shows_the_same_as_an_elder_step(self):
        steps = [("use", 0, ()), ("use", 0, ()), ("under", "f", (1, 0)), ("under", "g", (2, 1))]
        self.short(steps, [("use", 0, ()), ("under", "f", (0, 0)), ("under", "g", (1, 0))])
        # The same is shown by another rule, and by another form.
        self.short([("use", 0, ()), ("use", 3, ()), ("under", "f", (1,))], [("use", 0, ()), ("under", "f", (0,))])
        steps = [("use", 0, ()), ("back", 0), ("back", 1), ("fill", 2, ()), ("under", "f", (3, 1))]
        self.short(steps, [("use", 0, ()), ("back", 0), ("under", "f", (0, 1))])

    def test_the_eldest_stands_for_all(self):
        steps = [("use", 3, ()), ("use", 0, ()), ("same", B), ("use", 0, fill(a=A))]
        self.short(steps, [("use", 3, ())])

    def test_one_side_the_same_is_not_the_same(self):
        steps = [("use", 0, ()), ("same", A), ("same", PLUS_NIL[0]), ("under", "f", (0, 1, 2))]
        self.short(steps, steps)

    def test_the_last_step_left_out(self):
        steps = [("use", 0, ()), ("back", 0), ("use", 1, ()), ("back", 1)]
        self.short(steps, [("use", 0, ())])
        steps = [("use", 0, ()), ("use", 1, ()), ("under", "f", (1,)), ("use", 0, fill(a=B)), ("back", 2), ("under", "f", (1,))]
        self.short(steps, [("use", 1, ()), ("under", "f", (0,))])

    def test_what_is_not_needed(self):
        steps = [("use", 1, ()), ("use", 0, ()), ("same", B), ("back", 1), ("back", 0)]
        self.short(steps, [("use", 1, ()), ("back", 0)])
        self.short([("same", A), ("same", B), ("use", 0, ())], [("use", 0, ())])

    def test_what_is_needed_no_more(self):
        # Step 2 stands for step 5, so that 3 and 4 are not needed.
        steps = [("use", 1, ()), ("use", 0, ()), ("back", 0), ("back", 2), ("back", 3), ("back", 3), ("under", "f", (4, 1))]
        self.short(steps, [("use", 1, ()), ("use", 0, ()), ("back", 0), ("under", "f", (2, 1))])

    def test_the_others_keep_their_order(self):
        steps = [("use", 1, ()), ("same", B), ("use", 0, ()), ("under", "f", (2, 1, 0))]
        self.short(steps, steps)
        steps = [("use", 1, ()), ("same", NIL), ("use", 0, ()), ("back", 2), ("under", "f", (2, 3, 0))]
        self.short(steps, [("use", 1, ()), ("use", 0, ()), ("back", 1), ("under", "f", (1, 2, 0))])

    def test_all_parts_together(self):
        steps = [
            ("same", NIL),
            ("use", 1, fill(b=NIL)),
            ("use", 0, ()),
            ("use", 1, fill(a=NIL, b=A)),
            ("back", 1),
            ("chain", 4, 2),
            ("chain", 1, 4),
            ("under", "f", (6, 5)),
            ("use", 3, ()),
            ("chain", 3, 8),
            ("under", "f", (1, 0)),
            ("under", "f", (6, 9)),
        ]
        self.short(steps, [
            ("use", 0, ()),
            ("use", 1, fill(a=NIL, b=A)),
            ("chain", 1, 0),
            ("same", sign("plus", A, NIL)),
            ("under", "f", (3, 2)),
        ])

    def test_fillings_and_names_stay(self):
        steps = [("use", 1, fill(a=A, b=s(B))), ("fill", 0, fill(a=A, b=B)), ("fill", 0, fill(a=NIL, b=B))]
        self.short(steps, [("use", 1, fill(a=A, b=s(B))), ("fill", 0, fill(a=NIL, b=B))])

    def test_papers_that_double(self):
        steps = doubling(59)
        self.short(steps, [("same", PLUS_NIL[0])])
        self.short(steps[:-1], [("same", PLUS_NIL[0])])
        self.short(steps[:2] + (("under", "f", (1,)),), [("use", 0, ()), ("back", 0), ("under", "f", (1,))])

    def test_papers_made_by_chance(self):
        for seed, paper in chance_papers(60):
            with self.subTest(seed=seed):
                book, steps = shortened(paper)
                equations = shown((book, steps))
                self.assertEqual(book, paper[0])
                self.assertEqual(equations[-1], shown(paper)[-1])
                self.assertEqual(len(set(equations)), len(equations))
                self.assertEqual(needs(steps, len(steps) - 1), set(range(len(steps))))
                self.assertEqual([step[0] == "same" for step in steps], [left == right for left, right in equations])
                before = shown(paper)
                firsts = [before.index(equation) for equation in equations]
                self.assertEqual(firsts, sorted(firsts))
                for first, step in zip(firsts, steps):
                    if step[0] != "same":
                        self.assertEqual(step[0], paper[1][first][0])
                        self.assertEqual([equations[own] for own in owns(step)], [before[own] for own in owns(paper[1][first])])
                self.assertEqual(shortened((book, steps)), (book, steps))


class InOrder(unittest.TestCase):
    def ordered(self, steps, expected, book=BOOK):
        paper = (book, tuple(steps))
        told = set_in_order(paper)
        self.assertEqual(told, (book, tuple(expected)))
        self.assertEqual(set_in_order(told), told)
        self.assertEqual(shown(told)[-1], shown(paper)[-1])

    def test_what_is_in_order_stays(self):
        for steps in (
            [("use", 0, ())],
            [("same", A)],
            [("use", 1, ()), ("use", 0, ()), ("under", "f", (0, 1)), ("back", 2), ("under", "g", (0, 3, 1))],
        ):
            self.ordered(steps, steps)

    def test_first_things_first(self):
        steps = [("use", 0, ()), ("use", 1, ()), ("under", "f", (1, 0))]
        self.ordered(steps, [("use", 1, ()), ("use", 0, ()), ("under", "f", (0, 1))])
        steps = [("use", 0, ()), ("use", 1, ()), ("same", B), ("under", "f", (2, 1, 0))]
        self.ordered(steps, [("same", B), ("use", 1, ()), ("use", 0, ()), ("under", "f", (0, 1, 2))])

    def test_one_part_is_done_with_ahead_of_the_next(self):
        steps = [
            ("use", 0, ()),
            ("use", 1, ()),
            ("same", B),
            ("back", 0),
            ("under", "f", (2, 0)),
            ("back", 1),
            ("under", "g", (5, 4, 3)),
        ]
        self.ordered(steps, [
            ("use", 1, ()),
            ("back", 0),
            ("same", B),
            ("use", 0, ()),
            ("under", "f", (2, 3)),
            ("back", 3),
            ("under", "g", (1, 4, 5)),
        ])

    def test_chain(self):
        steps = [("use", 0, ()), ("use", 1, fill(a=NIL, b=A)), ("chain", 1, 0)]
        self.ordered(steps, [("use", 1, fill(a=NIL, b=A)), ("use", 0, ()), ("chain", 0, 1)])
        steps = [("same", A), ("same", A), ("chain", 1, 0)]
        self.ordered(steps, [("same", A), ("chain", 0, 0)])

    def test_what_is_not_needed(self):
        steps = [("same", NIL), ("use", 0, ()), ("same", B), ("back", 1), ("same", A), ("fill", 3, fill(a=NIL))]
        self.ordered(steps, [("use", 0, ()), ("back", 0), ("fill", 1, fill(a=NIL))])

    def test_what_is_the_same_stands_once(self):
        steps = [("use", 0, ()), ("use", 0, ()), ("under", "f", (1, 0))]
        self.ordered(steps, [("use", 0, ()), ("under", "f", (0, 0))])

    def test_what_comes_to_be_the_same(self):
        """Steps 2 and 3 lean on other ones, which are the same, and so on."""
        steps = [
            ("use", 0, ()), ("use", 0, ()),
            ("back", 0), ("back", 1),
            ("fill", 2, fill(a=B)), ("fill", 3, fill(a=B)),
            ("chain", 0, 2), ("chain", 1, 3), ("chain", 0, 3),
            ("under", "f", (6, 4)), ("under", "f", (8, 5)),
            ("under", "g", (9, 10, 7)),
        ]
        self.ordered(steps, [
            ("use", 0, ()), ("back", 0), ("chain", 0, 1), ("fill", 1, fill(a=B)), ("under", "f", (2, 3)), ("under", "g", (4, 4, 2)),
        ])

    def test_the_last_one_alone_at_the_end(self):
        steps = [("same", A), ("under", "s", (0,)), ("same", A), ("under", "s", (2,))]
        self.ordered(steps, [("same", A), ("under", "s", (0,))])

    def test_the_same_equation_is_not_the_same_step(self):
        for steps in (
            [("use", 0, ()), ("use", 3, ()), ("under", "f", (0, 1))],
            [("use", 0, ()), ("back", 0), ("back", 1), ("chain", 1, 2), ("under", "f", (0, 3))],
            [("use", 2, ()), ("same", TWICE[0]), ("under", "f", (0, 1))],
        ):
            self.ordered(steps, steps)

    def test_fillings_stay(self):
        steps = [("use", 0, ()), ("use", 0, fill(a=A)), ("fill", 0, ()), ("fill", 0, fill(a=A)), ("under", "f", (0, 2, 3)), ("under", "g", (1, 4))]
        self.ordered(steps, [
            ("use", 0, fill(a=A)),
            ("use", 0, ()),
            ("fill", 1, ()),
            ("fill", 1, fill(a=A)),
            ("under", "f", (1, 2, 3)),
            ("under", "g", (0, 4)),
        ])

    def test_other_forms_are_not_the_same(self):
        steps = [
            ("same", A), ("same", B),
            ("under", "f", (0, 1)), ("under", "f", (1, 0)), ("under", "g", (0, 1)),
            ("under", "h", (2, 3, 4)), ("under", "f", (0,)), ("under", "h", (5, 6)),
        ]
        self.ordered(steps, steps)

    def test_papers_that_double(self):
        steps = doubling(59)
        self.ordered(steps, steps)
        # The same twice over, one of them ahead of the other.
        twice = doubling(28)
        many = len(twice)
        shifted = [(step[0],) + tuple(number + many for number in step[1:]) for step in twice[1:]]
        steps = [*twice, ("use", 0, ()), *shifted, ("under", "f", (2 * many - 1, many - 1))]
        self.ordered(steps, [*twice, ("under", "f", (many - 1, many - 1))])

    def test_papers_made_by_chance(self):
        for seed, paper in chance_papers(60):
            with self.subTest(seed=seed):
                book, steps = set_in_order(paper)
                self.assertEqual(steps, naive_order(paper[1]))
                self.assertEqual(Unfolding((book, steps)).walk(len(steps) - 1, 60), all_walks(paper)[-1])
                self.assertEqual(set_in_order((book, steps)), (book, steps))
                self.assertIsNone(told_apart(paper, (book, steps)))


def naive_order(steps):
    """The steps in the order in which a plain recursion is done with them."""
    told = []

    def visit(number):
        step = steps[number]
        numbers = iter([visit(own) for own in owns(step)])
        if step[0] == "under":
            step = (step[0], step[1], tuple(numbers))
        elif step[0] == "fill":
            step = ("fill", next(numbers), step[2])
        elif step[0] in ("back", "chain"):
            step = (step[0], *numbers)
        if step not in told:
            told.append(step)
        return told.index(step)

    visit(len(steps) - 1)
    return tuple(told)


class ToldApart(unittest.TestCase):
    def apart(self, way, one, other, book=BOOK, other_book=BOOK):
        one, other = (book, tuple(one)), (other_book, tuple(other))
        self.assertEqual(told_apart(one, other), way)
        self.assertEqual(told_apart(other, one), way)
        self.assertIsNone(told_apart(one, one))
        self.assertIsNone(told_apart(other, other))

    def test_alike_in_other_orders_and_with_steps_twice(self):
        one = [("use", 0, ()), ("use", 1, ()), ("under", "f", (0, 1, 0))]
        self.apart(None, one, one)
        self.apart(None, one, [("use", 1, ()), ("use", 0, ()), ("under", "f", (1, 0, 1))])
        self.apart(None, one, [("use", 0, ()), ("use", 1, ()), ("use", 0, ()), ("under", "f", (0, 1, 2))])
        self.apart(None, one, [("same", NIL), *[("use", 0, ())] * 3, ("back", 1), ("use", 1, ()), ("under", "f", (3, 5, 1))])

    def test_other_forms_at_the_last_step(self):
        term = sign("two", A, A)
        forms = [
            [("use", 2, ())],
            [("use", 0, fill(a=B))],
            [("use", 0, fill(a=A))],
            [("use", 3, ())],
            [("same", term)],
            [("same", s(term))],
            [("same", term), ("back", 0)],
            [("same", term), ("chain", 0, 0)],
            [("same", term), ("under", "s", ())],
            [("same", term), ("under", "t", ())],
            [("same", term), ("under", "s", (0,))],
            [("same", term), ("under", "s", (0, 0))],
            [("same", term), ("under", "t", (0, 0))],
            [("same", term), ("fill", 0, ())],
            [("same", term), ("fill", 0, fill(a=A))],
            [("same", term), ("fill", 0, fill(a=B))],
        ]
        for at, one in enumerate(forms):
            for other in forms[:at]:
                with self.subTest(one=one, other=other):
                    self.apart((), one, other)

    def test_deeper_down_each_form(self):
        for behind, way in (
            ([("back", 0)], (0,)),
            ([("fill", 0, ())], (0,)),
            ([("chain", 0, 0)], (0,)),
            ([("back", 0), ("chain", 1, 0)], (0, 0)),
            ([("back", 0), ("chain", 0, 1)], (0,)),
            ([("under", "f", (0,))], (0,)),
            ([("same", NIL), ("under", "f", (1, 0))], (1,)),
            ([("same", NIL), ("under", "f", (1, 1, 0))], (2,)),
            ([("same", NIL), ("under", "f", (1, 0, 1)), ("back", 2)], (0, 1)),
            ([("same", NIL), ("chain", 0, 0), ("under", "f", (1, 2, 1)), ("back", 3)], (0, 1, 0)),
        ):
            with self.subTest(way=way):
                self.apart(way, [("same", A), *behind], [("same", B), *behind])
                self.apart(way, [("use", 2, ()), *behind], [("use", 2, fill(a=A)), *behind])

    def test_the_second_of_a_chain(self):
        one = [("same", A), ("same", A), ("chain", 0, 1)]
        other = [("same", A), ("back", 0), ("chain", 0, 1)]
        self.apart((1,), one, other)

    def test_a_way_ahead_of_longer_ones_that_begin_with_it(self):
        one = [("same", A), ("back", 0), ("under", "f", (1,))]
        other = [("same", B), ("fill", 0, ()), ("under", "f", (1,))]
        self.apart((0,), one, other)
        self.apart((), one, [("same", B), ("fill", 0, ()), ("under", "g", (1,))])

    def test_the_first_number_goes_ahead_of_the_length(self):
        one = [("same", A), ("back", 0), ("back", 1), ("same", NIL), ("under", "f", (2, 3))]
        other = [("same", B), ("back", 0), ("back", 1), ("same", A), ("under", "f", (2, 3))]
        self.apart((0, 0, 0), one, other)
        one = [("same", A), ("same", B), ("under", "f", (0, 1)), ("back", 2), ("under", "g", (0, 3, 1))]
        other = [("same", A), ("same", NIL), ("under", "f", (0, 1)), ("back", 2), ("under", "g", (0, 3, 1))]
        self.apart((1, 0, 1), one, other)

    def test_pairs_that_were_alike_are_met_again(self):
        one = [("same", A), ("under", "f", (0, 0)), ("same", B), ("under", "g", (1, 1, 2))]
        other = [("same", A), ("under", "f", (0, 0)), ("same", NIL), ("under", "g", (1, 1, 2))]
        self.apart((2,), one, other)

    def test_books_are_not_looked_at(self):
        other_book = (PLUS_NIL, PLUS_NIL)
        self.apart(None, [("use", 1, ())], [("use", 1, ())], BOOK, other_book)
        self.apart(None, [("same", A)], [("same", A)], (), BOOK)
        self.apart((), [("use", 0, ())], [("use", 1, ())], other_book, other_book)

    def test_steps_that_are_not_needed_are_not_looked_at(self):
        self.apart(None, [("same", A), ("same", B)], [("use", 0, ()), ("back", 0), ("same", B)])

    def test_papers_that_double(self):
        steps = list(doubling(59))
        self.apart(None, steps, steps)
        self.apart((), steps, steps[:-1])
        other = [("use", 3, ())] + steps[1:]
        self.apart((0,) * 59, steps, other)
        # Only the last of all ways differs: a use of its own at the very end.
        late = [("use", 0, ()), ("use", 3, ()), ("back", 1), ("chain", 0, 2)]
        plain = [("use", 0, ()), ("use", 0, ()), ("back", 1), ("chain", 0, 2)]
        self.apart((1, 0), late, plain)

    def test_papers_that_double_with_all_steps_twice(self):
        twice = [("same", A), ("same", A)]
        for number in range(59):
            twice.extend([("chain", 2 * number, 2 * number + 1), ("chain", 2 * number + 1, 2 * number)])
        self.assertEqual(len(twice), 120)
        self.apart(None, doubling_same(59), twice)
        book = ((A, A),)
        self.apart((0,) * 59, doubling_same(59), [twice[0], ("use", 0, ()), *twice[2:]], book, book)
        self.apart((0,) * 58 + (1,), doubling_same(59), [("use", 0, ()), *twice[1:]], book, book)

    def test_the_very_last_way_of_a_paper_that_doubles(self):
        def paper(step):
            """Each storey has one step as all others have it, and one that holds the other step."""
            steps = [("same", A), step]
            while len(steps) < 120:
                alike, unlike = len(steps) - 2, len(steps) - 1
                steps.extend([("chain", alike, alike), ("chain", alike, unlike)])
            return steps

        book = ((A, A),)
        one, other = paper(("same", A)), paper(("use", 0, ()))
        self.apart((1,) * 59, one, other, book, book)
        self.apart(None, one, doubling_same(59), book, book)

    def test_papers_made_by_chance(self):
        papers = [paper for _, paper in chance_papers(40, 12)]
        for at, one in enumerate(papers):
            for other in papers[:at]:
                self.assertEqual(told_apart(one, other), naive_apart(one[1], other[1]))

    def test_a_paper_and_one_with_another_step(self):
        differs = 0
        for seed, (book, steps) in chance_papers(60):
            chance = random.Random(seed)
            at = chance.randrange(len(steps))
            other = steps[:at] + (("same", shown((book, steps))[at][0]),) + steps[at + 1:]
            try:
                shown((book, other))
            except ValueError:
                continue
            way = told_apart((book, steps), (book, other))
            self.assertEqual(way, naive_apart(steps, other))
            differs += way is not None
        self.assertGreater(differs, 5)


def doubling_same(times):
    """Steps of which the last one has 2 ** times ways down to the first one."""
    return [("same", A)] + [("chain", number, number) for number in range(times)]


def naive_apart(steps, others):
    """The least of all ways at which the forms differ."""
    def form(step):
        if step[0] == "under":
            return ("under", step[1], len(step[2]))
        if step[0] == "fill":
            return ("fill", step[2])
        return step if step[0] in ("use", "same") else step[:1]

    def ways(number, other, way):
        if form(steps[number]) != form(others[other]):
            yield way
        else:
            for at, pair in enumerate(zip(owns(steps[number]), owns(others[other]))):
                yield from ways(*pair, way + (at,))

    return min(ways(len(steps) - 1, len(others) - 1, ()), default=None)


class Uses(unittest.TestCase):
    def told(self, expected, *steps, book=BOOK):
        many = uses((book, steps))
        self.assertIsInstance(many, list)
        self.assertEqual(many, expected)

    def test_each_form(self):
        self.told([0, 1, 0, 0], ("use", 1, ()))
        self.told([0, 0, 0, 1], ("use", 3, fill(a=NIL)))
        self.told([0, 0, 0, 0], ("same", A))
        self.told([0, 0, 0, 1], ("use", 3, ()), ("back", 0))
        self.told([1, 1, 0, 0], ("use", 1, fill(a=NIL, b=A)), ("use", 0, ()), ("chain", 0, 1))
        self.told([2, 1, 0, 0], ("use", 1, ()), ("use", 0, ()), ("under", "f", (1, 0, 1)))
        self.told([0, 0, 0, 0], ("use", 1, ()), ("under", "f", ()))
        self.told([0, 1, 0, 0], ("use", 1, ()), ("fill", 0, fill(a=B)))

    def test_only_the_last_step_counts(self):
        self.told([0, 0, 1, 0], ("use", 0, ()), ("use", 1, ()), ("use", 2, ()))
        self.told([0, 0, 0, 0], ("use", 0, ()), ("same", A))

    def test_no_rules(self):
        self.told([], ("same", A), book=())

    def test_papers_that_double(self):
        self.told([2 ** 59, 0, 0, 0], *doubling(59))
        steps = (("use", 1, ()), ("use", 1, ()), ("chain", 0, 1)), doubling(20)
        self.told([2 ** 20, 0, 0, 2], *steps[1], ("use", 3, ()), ("under", "f", (41, 40, 41)))

    def test_papers_made_by_chance(self):
        for seed, paper in chance_papers(60):
            walk = all_walks(paper)[-1]
            with self.subTest(seed=seed):
                self.told([sum(move[1] == rule for move in walk) for rule in range(6)], *paper[1], book=paper[0])

    def test_a_told_list_may_be_changed(self):
        paper = (BOOK, (("use", 1, ()), *idle(1), ("back", 0)))
        told = uses(paper)
        told[1] = 7
        told.append(5)
        self.assertEqual(uses(paper), [0, 1, 0, 0])


class Stays(unittest.TestCase):
    def test_what_is_handed_in(self):
        for seed, paper in chance_papers(10):
            before = copy.deepcopy(paper)
            for function in (shortened, set_in_order, uses):
                function(paper)
            told_apart(paper, paper)
            self.assertEqual(paper, before)

    def test_deep_terms(self):
        steps = (("same", tower(99, NIL)), ("same", tower(99, NIL)), ("use", 0, fill(a=tower(97, A))), ("chain", 0, 1))
        self.assertEqual(shortened((BOOK, steps))[1], steps[:1])
        self.assertEqual(set_in_order((BOOK, steps))[1], (steps[0], ("chain", 0, 0)))
        self.assertIsNone(told_apart((BOOK, steps), (BOOK, steps)))


if __name__ == "__main__":
    unittest.main()
