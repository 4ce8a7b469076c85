"""Points 4 and 7: moves done one behind another."""

import copy
import unittest

from proofshare.errors import BadTerm, NoMove
from proofshare.walks import walked
from tests.helper import BAD_BOOKS, BAD_FILLINGS, BAD_TERMS, NIL, RULE, SIZE_100, fill, sign, tower, x

A, B = x("a"), x("b")
PLUS_NIL = (sign("plus", A, NIL), A)
SWAP = (sign("plus", A, B), sign("plus", B, A))
FORGET = (sign("fst", A, B), A)
BOOK = (PLUS_NIL, SWAP, FORGET)


class Walked(unittest.TestCase):
    def test_no_moves(self):
        self.assertEqual(walked(BOOK, NIL, []), [NIL])
        self.assertEqual(walked((), A, []), [A])

    def test_both_ways(self):
        left, right = sign("plus", B, NIL), B
        self.assertEqual(walked(BOOK, left, [((), 0, 0, fill(a=B))]), [left, right])
        self.assertEqual(walked(BOOK, right, [((), 0, 1, fill(a=B))]), [right, left])

    def test_letters_of_the_rule_that_stay(self):
        self.assertEqual(walked(BOOK, PLUS_NIL[0], [((), 0, 0, ())]), [PLUS_NIL[0], A])
        self.assertEqual(walked(BOOK, SWAP[0], [((), 1, 0, ())]), [SWAP[0], SWAP[1]])
        term = sign("plus", A, NIL)
        self.assertEqual(walked(BOOK, term, [((), 1, 0, fill(b=NIL))]), [term, sign("plus", NIL, A)])

    def test_all_letters_at_once(self):
        self.assertEqual(walked(BOOK, SWAP[1], [((), 1, 0, fill(a=B, b=A))]), [SWAP[1], SWAP[0]])

    def test_a_filling_that_holds_its_letter(self):
        inner = sign("s", A)
        self.assertEqual(walked(BOOK, inner, [((), 0, 1, fill(a=inner))]), [inner, sign("plus", inner, NIL)])

    def test_letters_of_the_side_that_is_made(self):
        told = walked(BOOK, NIL, [((), 2, 1, fill(a=NIL, b=SIZE_100))])
        self.assertEqual(told, [NIL, sign("fst", NIL, SIZE_100)])
        self.assertEqual(walked(BOOK, A, [((), 2, 1, ())]), [A, FORGET[0]])

    def test_places_within(self):
        term = sign("f", NIL, sign("g", A, B, sign("plus", NIL, NIL)), NIL)
        told = walked(BOOK, term, [((1, 2), 0, 0, fill(a=NIL))])
        self.assertEqual(told, [term, sign("f", NIL, sign("g", A, B, NIL), NIL)])
        self.assertEqual(walked(BOOK, told[1], [((1, 2), 0, 1, fill(a=NIL))]), told[::-1])

    def test_one_behind_another(self):
        term = sign("s", sign("plus", NIL, B))
        moves = [
            ((0,), 1, 0, fill(a=NIL)),
            ((0,), 0, 0, fill(a=B)),
            ((), 2, 1, fill(a=sign("s", B), b=NIL)),
            ((1,), 0, 1, fill(a=NIL)),
        ]
        self.assertEqual(walked(BOOK, term, moves), [
            term,
            sign("s", sign("plus", B, NIL)),
            sign("s", B),
            sign("fst", sign("s", B), NIL),
            sign("fst", sign("s", B), sign("plus", NIL, NIL)),
        ])

    def test_terms_that_grow_beyond_100(self):
        book = ((A, sign("three", A, A, A)),)
        three = sign("three", SIZE_100, SIZE_100, SIZE_100)
        self.assertEqual(walked(book, SIZE_100, [((), 0, 0, fill(a=SIZE_100))]), [SIZE_100, three])
        told = walked(((sign("f"), tower(99, A)), ), sign("f"), [((), 0, 0, fill(a=SIZE_100))])
        self.assertEqual(told[1], tower(198, NIL))

    def test_terms_deeper_than_the_stack(self):
        book = ((NIL, sign("s", NIL)),)
        moves = [((0,) * depth, 0, 0, ()) for depth in range(1500)]
        last = walked(book, NIL, moves)[-1]
        depth = 0
        while last[2]:
            last = last[2][0]
            depth += 1
        self.assertEqual((depth, last), (1500, NIL))

    def test_a_told_list_may_be_changed(self):
        moves = [((), 0, 0, ())]
        told = walked(BOOK, PLUS_NIL[0], moves)
        told.reverse()
        told.pop()
        self.assertEqual(walked(BOOK, PLUS_NIL[0], moves), [PLUS_NIL[0], A])

    def test_what_is_handed_in_stays(self):
        moves = [((), 0, 1, ()), ((0,), 0, 1, ()), ((0,), 0, 0, ()), ((), 1, 0, fill(b=NIL))]
        handed = [BOOK, A, moves]
        before = copy.deepcopy(handed)
        walked(*handed)
        self.assertEqual(handed, before)
        moves.append(((), 9, 0, ()))
        before = copy.deepcopy(handed)
        with self.assertRaises(NoMove):
            walked(*handed)
        self.assertEqual(handed, before)


class Refusals(unittest.TestCase):
    def refused(self, term, move, book=BOOK):
        """That the move is refused, as the first of a walk and as the third."""
        ahead = [((), 2, 1, fill(a=term, b=NIL)), ((), 2, 0, fill(a=term, b=NIL))]
        if term == A:
            ahead = [((), 2, 1, fill(b=NIL)), ((), 2, 0, fill(b=NIL))]
        behind = [((), 0, 1, fill(a=term))]
        for first in ([], ahead):
            with self.assertRaises(NoMove) as caught:
                walked(book, term, first + [move] + behind)
            self.assertEqual(caught.exception.number, len(first))

    def test_no_such_place(self):
        term = sign("plus", NIL, NIL)
        for place in ((2,), (-1,), (-2,), (0, 0), (0, -1), (10 ** 30,), (0,) * 5000):
            with self.subTest(place=place[:3]):
                self.refused(term, (place, 0, 1, fill(a=NIL)))
        self.refused(A, ((0,), 0, 1, ()))

    def test_no_such_rule(self):
        for number in (3, -1, -3, 10 ** 30, -10 ** 30):
            with self.subTest(number=number):
                self.refused(PLUS_NIL[0], ((), number, 0, ()))
                self.refused(A, ((), number, 1, ()))

    def test_no_such_rule_in_an_empty_book(self):
        with self.assertRaises(NoMove) as caught:
            walked((), NIL, [((), 0, 0, ())])
        self.assertEqual(caught.exception.number, 0)

    def test_another_term_there(self):
        self.refused(NIL, ((), 0, 0, fill(a=NIL)))
        self.refused(B, ((), 0, 1, ()))
        self.refused(sign("plus", NIL, NIL), ((), 0, 0, ()))
        self.refused(sign("plus", NIL, NIL), ((), 0, 0, fill(a=B)))
        self.refused(sign("s", sign("plus", NIL, NIL)), ((), 0, 0, fill(a=NIL)))
        self.refused(sign("plus", NIL, sign("plus", NIL, NIL)), ((0,), 0, 0, fill(a=NIL)))

    def test_the_side_of_the_other_way(self):
        self.refused(sign("plus", B, NIL), ((), 0, 1, fill(a=B)))
        self.refused(B, ((), 0, 0, fill(a=B)))

    def test_a_letter_that_the_rule_has_not(self):
        self.refused(sign("plus", NIL, NIL), ((), 0, 0, fill(a=NIL, b=NIL)))
        self.refused(A, ((), 0, 1, fill(c=NIL)))
        self.refused(A, ((), 0, 1, fill(plus=NIL)))

    def test_a_letter_filled_by_itself(self):
        self.refused(A, ((), 0, 1, fill(a=A)))
        self.refused(sign("plus", NIL, B), ((), 1, 0, fill(a=NIL, b=B)))
        self.refused(A, ((), 2, 1, fill(b=B)))

    def test_a_letter_that_is_missing(self):
        self.refused(sign("plus", NIL, NIL), ((), 1, 0, fill(a=NIL)))

    def test_no_such_way(self):
        for way in (2, -1, -2):
            with self.subTest(way=way):
                self.refused(PLUS_NIL[0], ((), 0, way, ()))
                self.refused(A, ((), 0, way, ()))

    def test_the_first_that_does_not_fit(self):
        fits, other = ((), 0, 1, ()), ((), 7, 0, ())
        back = ((), 0, 0, ())
        for many in range(4):
            with self.assertRaises(NoMove) as caught:
                walked(BOOK, A, [fits, back] * many + [fits, other, other, back])
            self.assertEqual(caught.exception.number, 2 * many + 1)


class BadWalks(unittest.TestCase):
    def bad(self, book, term, moves):
        with self.assertRaises(BadTerm):
            walked(book, term, moves)

    def test_books(self):
        for at, book in enumerate(BAD_BOOKS):
            with self.subTest(at=at):
                self.bad(book, NIL, [])
                self.bad(book, NIL, [((), 99, 0, ())])

    def test_a_book_of_twenty_rules(self):
        book = (RULE,) * 19 + (PLUS_NIL,)
        self.assertEqual(walked(book, A, [((), 19, 1, ())]), [A, PLUS_NIL[0]])
        self.bad(book + (RULE,), A, [])

    def test_terms(self):
        for at, term in enumerate(BAD_TERMS):
            with self.subTest(at=at):
                self.bad(BOOK, term, [])
                self.bad(BOOK, term, [((), 99, 0, ())])

    def test_fillings(self):
        for at, filling in enumerate(BAD_FILLINGS):
            with self.subTest(at=at):
                self.bad(BOOK, SWAP[0], [((), 1, 0, filling)])
                self.bad(BOOK, SWAP[0], [((), 99, 0, ()), ((5,), -1, 0, filling)])

    def test_a_term_of_just_100(self):
        self.assertEqual(walked(BOOK, SIZE_100, []), [SIZE_100])


if __name__ == "__main__":
    unittest.main()
