"""Point 9: papers made of walks."""

import copy
import random
import unittest

from proofshare.errors import BadTerm, NoMove, TooLong
from proofshare.folding import folded
from proofshare.papers import shown
from proofshare.unfolding import Unfolding
from proofshare.walks import walked
from tests.helper import BAD_BOOKS, BAD_FILLINGS, BAD_TERMS, NIL, RULE, SIZE_100, fill, sign, tower, x
from tests.naive import CHANCE_BOOK, chance_term, chance_walk, places_of

A, B = x("a"), x("b")
PLUS_NIL = (sign("plus", A, NIL), A)
SWAP = (sign("plus", A, B), sign("plus", B, A))
FORGET = (sign("fst", A, B), A)
GROW = (A, sign("s", A))
BOOK = (PLUS_NIL, SWAP, FORGET, GROW)
SWAP_HERE = ((), 1, 0, ())


def at(place, move):
    return (place + move[0],) + move[1:]


def grow(term):
    """The move that puts an s ahead of the term."""
    return ((), 3, 0, () if term == A else fill(a=term))


def shrink(term):
    """The move that takes it off."""
    return ((), 3, 1, () if term == A else fill(a=term))


class FoldTest(unittest.TestCase):
    def folds(self, term, moves, book=BOOK):
        """The paper of the walk, held against what is promised of it."""
        paper = folded(book, term, moves)
        terms = walked(book, term, moves)
        self.assertIsInstance(paper, tuple)
        self.assertEqual(len(paper), 2)
        self.assertEqual(paper[0], book)
        self.assertIsInstance(paper[1], tuple)
        self.assertLessEqual(len(paper[1]), 120)
        self.assertEqual(shown(paper)[-1], (terms[0], terms[-1]))
        self.assertEqual(Unfolding(paper).walk(len(paper[1]) - 1, len(moves)), list(moves))
        return paper

    def refused(self, term, moves, book=BOOK):
        walked(book, term, moves)
        with self.assertRaises(TooLong):
            folded(book, term, moves)


class Folded(FoldTest):
    def test_one_move(self):
        self.folds(PLUS_NIL[0], [((), 0, 0, ())])
        self.folds(A, [((), 0, 1, ())])
        self.folds(sign("plus", NIL, A), [((), 1, 0, fill(a=NIL, b=A))])
        self.folds(sign("plus", NIL, A), [((), 1, 1, fill(b=NIL))])
        self.folds(NIL, [((), 2, 1, fill(a=NIL, b=sign("s", B)))])

    def test_one_move_within(self):
        term = sign("f", NIL, sign("g", A, B, sign("plus", NIL, NIL)), NIL)
        self.folds(term, [((1, 2), 0, 0, fill(a=NIL))])
        self.folds(term, [((1, 2), 0, 1, fill(a=sign("plus", NIL, NIL)))])
        self.folds(term, [((0,), 3, 0, fill(a=NIL))])
        self.folds(term, [((2,), 3, 0, fill(a=NIL))])
        self.folds(tower(90, A), [((0,) * 90, 0, 1, ())])
        self.folds(tower(90, A), [((0,) * 40, 3, 1, fill(a=tower(49, A)))])

    def test_two_moves_in_all_orders_of_their_places(self):
        term = sign("f", A, A, sign("g", A, A))
        places = [(0,), (1,), (2, 0), (2, 1)]
        for one in places:
            for other in places:
                with self.subTest(one=one, other=other):
                    self.folds(term, [at(one, grow(A)), at(other, grow(A if other != one else sign("s", A)))])

    def test_up_to_six_moves_by_both_ways(self):
        term = sign("plus", A, B)
        moves = [
            SWAP_HERE,
            ((), 0, 1, fill(a=sign("plus", B, A))),
            ((0, 1), 3, 0, ()),
            ((0,), 1, 0, fill(a=B, b=sign("s", A))),
            ((), 0, 0, fill(a=sign("plus", sign("s", A), B))),
            ((0,), 3, 1, ()),
        ]
        for many in range(1, 7):
            with self.subTest(many=many):
                self.folds(term, moves[:many])
        terms = walked(BOOK, term, moves)
        back = [(place, rule, 1 - way, filling) for place, rule, way, filling in moves[::-1]]
        for many in range(1, 7):
            with self.subTest(many=-many):
                self.folds(terms[-1], back[:many])

    def test_moves_at_the_whole_term_between_moves_within(self):
        term = sign("plus", A, B)
        inner = at((0,), grow(A))
        behind = at((1,), shrink(A))
        swap = ((), 1, 0, fill(a=sign("s", A)))
        self.folds(term, [inner, swap, behind])
        self.folds(term, [SWAP_HERE, at((1,), grow(A)), at((0,), grow(B))])
        self.folds(term, [at((1,), grow(B)), inner, at((1,), shrink(B)), at((0,), shrink(A)), SWAP_HERE])

    def test_a_walk_that_comes_back_to_a_term_it_had(self):
        term = sign("plus", A, B)
        back = ((), 1, 0, fill(a=B, b=A))
        self.folds(term, [SWAP_HERE, back, SWAP_HERE])
        self.folds(term, [at((0,), grow(A)), at((0,), shrink(A)), SWAP_HERE, back, at((1,), grow(B))])

    def test_a_walk_whose_last_term_is_its_first(self):
        term = sign("plus", A, B)
        self.folds(term, [SWAP_HERE, ((), 1, 1, ())])
        self.folds(term, [at((1,), grow(B)), at((1,), shrink(B))])
        self.folds(sign("plus", A, A), [((), 1, 0, fill(b=A))])
        self.folds(sign("f", A, A), [at((0,), grow(A)), at((1,), grow(A)), at((0,), shrink(A)), at((1,), shrink(A))])

    def test_moves_may_be_handed_in_as_any_list(self):
        moves = [SWAP_HERE, ((), 1, 1, ())]
        before = copy.deepcopy(moves)
        self.folds(sign("plus", A, B), moves)
        self.assertEqual(moves, before)

    def test_a_walk_of_no_moves_shows_its_term(self):
        self.folds(sign("plus", A, B), [])

    def test_a_book_of_twenty_rules(self):
        self.folds(PLUS_NIL[0], [((), 19, 0, ())], (RULE,) * 19 + (PLUS_NIL,))


class Many(FoldTest):
    def test_some_hundred_moves_there_and_back(self):
        term = sign("plus", A, sign("f", B))
        for many in (100, 255, 256, 257, 300, 999):
            with self.subTest(many=many):
                self.folds(term, ([at((1, 0), grow(B)), at((1, 0), shrink(B))] * many)[:many])

    def test_some_hundred_moves_in_a_round(self):
        there, back = ((), 1, 0, fill(a=sign("s", A))), ((), 1, 0, fill(a=B, b=sign("s", A)))
        moves = [at((0,), grow(A)), there, back, there, at((1,), shrink(A)), ((), 1, 1, ())]
        for less in range(6):
            self.folds(sign("plus", A, B), (moves * 60)[:360 - less])

    def test_some_hundred_moves_behind_others(self):
        two = sign("s", sign("s", A))
        moves = [grow(A), grow(sign("s", A)), *[grow(two), shrink(two)] * 150, shrink(sign("s", A)), shrink(A)]
        for term, place in ((A, ()), (sign("f", A), (0,))):
            self.folds(term, [at(place, move) for move in moves])

    def test_some_hundred_moves_within_parts_one_behind_another(self):
        up, down = grow(A), shrink(A)
        moves = [at((part,), move) for part in range(3) for move in [up, down] * 60]
        self.folds(sign("f", A, A, A), moves)

    def test_some_hundred_moves_are_told_or_refused(self):
        told = 0
        for seed in range(30):
            chance = random.Random(seed)
            term = chance_term(chance, 2)
            moves, _ = chance_walk(chance, CHANCE_BOOK, term, 40 if seed < 20 else 200, 12)
            with self.subTest(seed=seed):
                try:
                    self.folds(term, moves, CHANCE_BOOK)
                    told += 1
                except TooLong:
                    pass
        self.assertGreater(told, 3)


class Never(FoldTest):
    """Walks of at most four moves whose terms have a size of 20 or less."""

    def test_walks_made_by_chance(self):
        for seed in range(300):
            chance = random.Random(seed)
            _, term = chance_walk(chance, CHANCE_BOOK, chance_term(chance, 2), 25, 20)
            self.assertLessEqual(len(list(places_of(term))), 20)
            moves, _ = chance_walk(chance, CHANCE_BOOK, term, chance.randrange(1, 5), 20)
            with self.subTest(seed=seed):
                self.folds(term, moves, CHANCE_BOOK)

    def test_four_moves_at_the_deepest_places(self):
        book = ((sign("p"), sign("q")), (sign("q"), sign("r")), (sign("r"), sign("t")), (sign("t"), sign("u")))
        moves = [((0,) * 19, rule, 0, ()) for rule in range(4)]
        self.folds(tower(19, sign("p")), moves, book)
        comb = sign("p")
        for number in range(6):
            comb = sign("f", sign("abcdefgh"[number]), comb, sign("abcdefgh"[number] * 2))
        self.folds(comb, [((1,) * 6, rule, 0, ()) for rule in range(4)], book)
        self.folds(sign("g", comb), [((0,) + (1,) * 6, rule, 0, ()) for rule in range(4)], book)

    def test_four_moves_with_a_move_at_the_whole_term_between_each(self):
        book = ((sign("p"), sign("q")), (A, sign("s", A)))
        term = tower(18, sign("p"))
        moves = [((0,) * 18, 0, 0, ()), ((), 1, 0, fill(a=tower(18, sign("q")))), ((0,) * 19, 0, 1, ()), ((), 1, 1, fill(a=term))]
        self.folds(term, moves, book)

    def test_four_moves_to_and_fro(self):
        # By turns in the last and in the first part, so that no sign holds two of them.
        wide = sign("f", tower(7, A), tower(8, A))
        first, second = (0,) * 8, (1,) + (0,) * 8
        moves = [at(second, grow(A)), at(first, grow(A)), at(second, shrink(A)), at(first, shrink(A))]
        self.assertEqual(max(len(list(places_of(term))) for term in walked(BOOK, wide, moves)), 20)
        self.folds(wide, moves)


class Refusals(FoldTest):
    def test_a_last_term_above_100(self):
        self.folds(tower(98, A), [((), 3, 0, fill(a=tower(98, A)))])
        self.refused(tower(99, A), [((), 3, 0, fill(a=tower(99, A)))])
        self.refused(tower(99, A), [((0,) * 99, 3, 0, ())])
        double = ((A, sign("two", A, A)),)
        self.refused(SIZE_100, [((), 0, 0, fill(a=SIZE_100))], double)

    def test_a_last_term_far_above_100(self):
        double = ((NIL, sign("two", NIL, NIL)),)
        moves = [((0,) * depth, 0, 0, ()) for depth in range(400)]
        self.refused(NIL, moves, double)

    def test_a_term_above_100_at_the_whole_term(self):
        term = tower(99, A)
        self.refused(term, [((), 3, 0, fill(a=term)), ((), 3, 1, fill(a=term))])

    def test_more_steps_than_120(self):
        # Each move needs a step of its own: no two of these uses are the same.
        term, moves = sign("c", sign("k"), NIL), []
        book = ((sign("c", sign("k"), A), sign("c", sign("k"), B)),)
        filling = NIL
        for number in range(70):
            other = tower(number % 9 + 1, tower(1, sign("z" * (number // 9 + 1))) if number >= 9 else A)
            moves.append(((), 0, 0, fill(a=filling, b=other)))
            filling = other
        self.refused(term, moves, book)
        self.folds(term, moves[:60], book)

    def test_a_term_above_100_that_is_no_side(self):
        # Each part is folded by itself, so only the ends are sides.
        book = ((NIL, tower(60, NIL)),)
        term, moves = sign("f", NIL, tower(60, NIL), NIL), [((0,), 0, 0, ()), ((1,), 0, 1, ())]
        self.folds(term, moves, book)
        self.folds(sign("g", term), [at((0,), move) for move in moves], book)
        self.folds(term, moves + [((0,), 0, 1, ()), ((2,), 0, 0, ())], book)
        self.folds(walked(book, term, moves)[-1], [((0,), 0, 1, ()), *moves[:1]], book)

    def test_walks_that_go_deeper_and_deeper_and_back(self):
        book = ((NIL, sign("s", NIL)),)
        for many in (10, 30):
            there = [((0,) * depth, 0, 0, ()) for depth in range(many)]
            back = [(place, rule, 1, filling) for place, rule, _, filling in there[::-1]]
            self.folds(NIL, there + back, book)
            self.folds(NIL, there, book)
        for many in (99, 119, 120, 121, 700):
            there = [((0,) * depth, 0, 0, ()) for depth in range(many)]
            back = [(place, rule, 1, filling) for place, rule, _, filling in there[::-1]]
            self.refused(NIL, there + back, book)

    def test_a_move_that_does_not_fit(self):
        for moves, number in (
            ([((), 5, 0, ())], 0),
            ([((2,), 3, 0, ())], 0),
            ([((), 1, 0, fill(a=A))], 0),
            ([SWAP_HERE, ((), 1, 0, ())], 1),
            ([SWAP_HERE, ((), 1, 1, ()), ((), 9, 0, ()), ((), 9, 0, ())], 2),
        ):
            with self.assertRaises(NoMove) as caught:
                folded(BOOK, sign("plus", A, B), moves)
            self.assertEqual(caught.exception.number, number)


class Order(unittest.TestCase):
    def test_a_move_that_does_not_fit_ahead_of_too_large_a_term(self):
        term = tower(99, A)
        for bad in (((), 9, 0, ()), ((), 0, 0, ())):
            with self.assertRaises(NoMove) as caught:
                folded(BOOK, term, [((), 3, 0, fill(a=term)), bad])
            self.assertEqual(caught.exception.number, 1)

    def test_a_move_that_does_not_fit_ahead_of_too_many_steps(self):
        book = ((NIL, sign("s", NIL)),)
        moves = [((0,) * depth, 0, 0, ()) for depth in range(200)]
        with self.assertRaises(NoMove) as caught:
            folded(book, NIL, moves + [((), 0, 0, ())])
        self.assertEqual(caught.exception.number, 200)

    def bad(self, book, term, moves):
        with self.assertRaises(BadTerm):
            folded(book, term, moves)

    def test_books(self):
        for number, book in enumerate(BAD_BOOKS):
            with self.subTest(number=number):
                self.bad(book, NIL, [((), 99, 0, ())])

    def test_terms(self):
        for number, term in enumerate(BAD_TERMS):
            with self.subTest(number=number):
                self.bad(BOOK, term, [((), 99, 0, ())])

    def test_fillings(self):
        for number, filling in enumerate(BAD_FILLINGS):
            with self.subTest(number=number):
                self.bad(BOOK, SWAP[0], [((), 1, 0, filling)])
                self.bad(BOOK, SWAP[0], [((), 99, 0, ()), ((5,), -1, 0, filling)])
                self.bad(BOOK, SIZE_100, [((), 3, 0, fill(a=SIZE_100)), ((5,), -1, 0, filling)])


if __name__ == "__main__":
    unittest.main()
