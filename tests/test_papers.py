"""Points 4, 5 and 6: what steps show, and which steps do not fit."""

import copy
import unittest

from proofshare.errors import BadTerm, NoStep
from proofshare.papers import shown
from tests.helper import (
    BAD_BOOKS, BAD_FILLINGS, BAD_NAMES, BAD_TERMS, NIL, RULE, SIZE_100, SIZE_101, fill, sign, tower, x,
)

A, B = x("a"), x("b")
PLUS_NIL = (sign("plus", A, NIL), A)
SWAP = (sign("plus", A, B), sign("plus", B, A))
# A letter of the left side only, and one of the right side only.
FORGET = (sign("fst", A, B), A)
MAKE = (NIL, sign("f", A))
BOOK = (PLUS_NIL, SWAP, FORGET, MAKE)


class Shown(unittest.TestCase):
    def last(self, *steps, book=BOOK):
        told = shown((book, steps))
        self.assertIsInstance(told, list)
        self.assertEqual(len(told), len(steps))
        return told[-1]

    def test_use(self):
        self.assertEqual(self.last(("use", 0, ())), PLUS_NIL)
        self.assertEqual(self.last(("use", 3, ())), MAKE)
        self.assertEqual(self.last(("use", 0, fill(a=NIL))), (sign("plus", NIL, NIL), NIL))
        self.assertEqual(self.last(("use", 1, fill(a=B, b=A))), (SWAP[1], SWAP[0]))
        self.assertEqual(self.last(("use", 1, fill(a=A))), SWAP)

    def test_use_with_a_letter_of_one_side_only(self):
        self.assertEqual(self.last(("use", 2, fill(b=NIL))), (sign("fst", A, NIL), A))
        self.assertEqual(self.last(("use", 3, fill(a=B))), (NIL, sign("f", B)))

    def test_same(self):
        term = sign("f", A, sign("g"))
        self.assertEqual(self.last(("same", term)), (term, term))
        self.assertEqual(self.last(("same", SIZE_100)), (SIZE_100, SIZE_100))

    def test_back(self):
        self.assertEqual(self.last(("use", 0, ()), ("back", 0)), (PLUS_NIL[1], PLUS_NIL[0]))
        self.assertEqual(self.last(("use", 0, ()), ("back", 0), ("back", 1)), PLUS_NIL)

    def test_chain(self):
        told = self.last(("use", 1, fill(a=NIL, b=A)), ("use", 0, ()), ("chain", 0, 1))
        self.assertEqual(told, (sign("plus", NIL, A), A))
        told = self.last(("use", 0, ()), ("back", 0), ("chain", 0, 1), ("chain", 1, 0))
        self.assertEqual(told, (A, A))

    def test_chain_of_a_step_with_itself(self):
        self.assertEqual(self.last(("same", A), ("chain", 0, 0)), (A, A))
        self.assertEqual(self.last(("use", 1, fill(b=A)), ("chain", 0, 0)), (sign("plus", A, A),) * 2)

    def test_under(self):
        steps = (("use", 0, ()), ("use", 3, ()))
        self.assertEqual(self.last(*steps, ("under", "f", ())), (sign("f"), sign("f")))
        self.assertEqual(self.last(*steps, ("under", "f", (1,))), (sign("f", NIL), sign("f", MAKE[1])))
        told = self.last(*steps, ("under", "f", (1, 0)))
        self.assertEqual(told, (sign("f", NIL, PLUS_NIL[0]), sign("f", MAKE[1], A)))
        told = self.last(*steps, ("under", "abcdefgh", (0, 1, 0)))
        self.assertEqual(told, (sign("abcdefgh", PLUS_NIL[0], NIL, PLUS_NIL[0]), sign("abcdefgh", A, MAKE[1], A)))

    def test_under_as_the_first_step(self):
        self.assertEqual(self.last(("under", "f", ()), book=()), (sign("f"), sign("f")))

    def test_fill(self):
        told = self.last(("use", 1, ()), ("fill", 0, fill(a=B, b=sign("s", A))))
        self.assertEqual(told, (sign("plus", B, sign("s", A)), sign("plus", sign("s", A), B)))
        self.assertEqual(self.last(("use", 1, ()), ("fill", 0, ())), SWAP)
        self.assertEqual(self.last(("use", 2, ()), ("fill", 0, fill(b=NIL))), (sign("fst", A, NIL), A))
        self.assertEqual(self.last(("use", 3, ()), ("fill", 0, fill(a=NIL))), (NIL, sign("f", NIL)))

    def test_fill_asks_for_the_letters_of_what_the_step_shows(self):
        # The letter b is none of rule 0, but stands in what step 0 shows.
        told = self.last(("use", 0, fill(a=B)), ("fill", 0, fill(b=NIL)))
        self.assertEqual(told, (sign("plus", NIL, NIL), NIL))

    def test_steps_that_lean_on_one_another(self):
        steps = (
            ("use", 1, ()),
            ("use", 0, ()),
            ("fill", 0, fill(a=NIL, b=A)),
            ("chain", 2, 1),
            ("back", 3),
            ("under", "s", (4,)),
            ("fill", 5, fill(a=sign("s", A))),
            ("chain", 5, 5),
        )
        told = shown((BOOK, steps[:7]))
        left, right = sign("s", A), sign("s", sign("plus", NIL, A))
        self.assertEqual(told, [
            SWAP,
            PLUS_NIL,
            (sign("plus", NIL, A), sign("plus", A, NIL)),
            (sign("plus", NIL, A), A),
            (A, sign("plus", NIL, A)),
            (left, right),
            (sign("s", left), sign("s", sign("plus", NIL, left))),
        ])
        with self.assertRaises(NoStep) as caught:
            shown((BOOK, steps))
        self.assertEqual((caught.exception.number, caught.exception.why), (7, "meet"))

    def test_each_step_is_told(self):
        told = shown(((), (("same", A), ("same", B), ("same", A))))
        self.assertEqual(told, [(A, A), (B, B), (A, A)])

    def test_a_told_list_may_be_changed(self):
        paper = (BOOK, (("use", 0, ()), ("back", 0)))
        told = shown(paper)
        told.clear()
        told.append(5)
        self.assertEqual(shown(paper), [PLUS_NIL, (PLUS_NIL[1], PLUS_NIL[0])])

    def test_what_is_handed_in_stays(self):
        paper = (BOOK, (("use", 1, fill(a=B, b=A)), ("under", "f", (0, 0)), ("fill", 1, fill(a=NIL)), ("back", 2)))
        before = copy.deepcopy(paper)
        shown(paper)
        self.assertEqual(paper, before)


class PaperTest(unittest.TestCase):
    def refused(self, number, why, steps, book=BOOK):
        with self.assertRaises(NoStep) as caught:
            shown((book, tuple(steps)))
        self.assertEqual((caught.exception.number, caught.exception.why), (number, why))


class Refusals(PaperTest):
    def test_number_of_a_rule(self):
        for number in (4, -1, -4, 10 ** 40, -10 ** 40):
            self.refused(0, "number", [("use", number, ())])
            self.refused(1, "number", [("same", A), ("use", number, ())])
        self.refused(0, "number", [("use", 0, ())], book=())

    def test_number_of_a_step(self):
        elder = [("same", A), ("use", 0, ())]
        for number in (2, 3, -1, -2, 10 ** 40, -10 ** 40):
            self.refused(2, "number", elder + [("back", number), ("same", A), ("same", A)])
            self.refused(2, "number", elder + [("chain", number, 0), ("same", A)])
            self.refused(2, "number", elder + [("chain", 0, number), ("same", A)])
            self.refused(2, "number", elder + [("under", "f", (number,)), ("same", A)])
            self.refused(2, "number", elder + [("under", "f", (0, 1, number)), ("same", A)])
            self.refused(2, "number", elder + [("fill", number, ()), ("same", A)])

    def test_number_in_the_first_step(self):
        self.refused(0, "number", [("back", 0)])
        self.refused(0, "number", [("chain", 0, 0)])
        self.refused(0, "number", [("under", "f", (0,))])
        self.refused(0, "number", [("fill", 0, ())])

    def test_letter(self):
        self.refused(0, "letter", [("use", 0, fill(b=NIL))])
        self.refused(0, "letter", [("use", 0, fill(a=NIL, b=NIL))])
        self.refused(0, "letter", [("use", 0, fill(aa=NIL))])
        self.refused(0, "letter", [("use", 0, fill(plus=NIL))])
        self.refused(1, "letter", [("same", A), ("fill", 0, fill(b=NIL))])
        self.refused(1, "letter", [("same", NIL), ("fill", 0, fill(nil=A))])

    def test_letter_that_a_step_shows_no_more(self):
        self.refused(1, "letter", [("use", 1, fill(a=B)), ("fill", 0, fill(a=NIL))])

    def test_letter_even_where_it_would_be_filled_by_itself(self):
        self.refused(0, "letter", [("use", 0, fill(b=B))])

    def test_many(self):
        elder = [("same", A), ("same", B)]
        self.refused(2, "many", elder + [("under", "f", (0, 1, 0, 1))])
        self.refused(2, "many", elder + [("under", "f", (0,) * 500)])

    def test_meet(self):
        self.refused(2, "meet", [("same", A), ("same", B), ("chain", 0, 1)])
        self.refused(1, "meet", [("use", 0, ()), ("chain", 0, 0)])
        self.refused(2, "meet", [("use", 0, ()), ("same", sign("plus", A, A)), ("chain", 1, 0)])

    def test_chain_meets_right_side_with_left_side(self):
        steps = [("use", 0, ()), ("same", A)]
        self.assertEqual(shown((BOOK, (*steps, ("chain", 0, 1))))[-1], PLUS_NIL)
        self.refused(2, "meet", steps + [("chain", 1, 0)])

    def test_size_of_use(self):
        half = tower(48, NIL)
        double = ((A, sign("two", A, A)), (sign("two", A, A), A))
        self.assertEqual(shown((double, (("use", 0, fill(a=half)),))), [(half, sign("two", half, half))])
        for number in (0, 1):
            self.refused(0, "size", [("use", number, fill(a=tower(49, NIL)))], book=double)
            self.refused(0, "size", [("use", number, fill(a=SIZE_100))], book=double)

    def test_sides_of_just_100_by_each_form(self):
        book = ((A, sign("s", A)), (sign("s", A), A))
        most, less = tower(99, A), tower(98, A)
        for number in (0, 1):
            sides = [(less, most), (most, less)][number]
            steps = (
                ("use", number, fill(a=less)),
                ("use", number, ()),
                ("fill", 1, fill(a=less)),
                ("back", 0),
                ("chain", 0, 3),
                ("use", number, fill(a=tower(97, A))),
                ("under", "s", (5,)),
                ("same", most),
            )
            told = shown((book, steps))
            self.assertEqual([told[0], told[2], told[6]], [sides] * 3)
            self.assertEqual(told[7], (most, most))

    def test_size_of_fill(self):
        book = ((A, sign("s", A)), (sign("s", A), A))
        for number in (0, 1):
            self.refused(1, "size", [("use", number, ()), ("fill", 0, fill(a=SIZE_100))], book=book)

    def test_size_of_under(self):
        self.assertEqual(shown(((), (("same", tower(98, A)), ("under", "f", (0,)))))[1], (sign("f", tower(98, A)),) * 2)
        self.refused(1, "size", [("same", SIZE_100), ("under", "f", (0,))])
        third = tower(32, A)
        most = sign("f", third, third, third)
        self.assertEqual(shown(((), (("same", third), ("under", "f", (0, 0, 0)))))[1], (most, most))
        self.refused(2, "size", [("same", third), ("same", sign("s", third)), ("under", "f", (0, 1, 0))])

    def test_size_of_one_side_under_a_sign(self):
        book = ((A, sign("s", A)), (sign("s", A), A))
        for number in (0, 1):
            self.refused(1, "size", [("use", number, fill(a=tower(98, A))), ("under", "f", (0,))], book=book)

    def test_no_steps(self):
        self.refused(0, "steps", [])
        self.refused(0, "steps", [], book=())

    def test_120_steps(self):
        told = shown((BOOK, (("same", A),) * 119 + (("back", 118),)))
        self.assertEqual(told, [(A, A)] * 120)

    def test_121_steps(self):
        self.refused(0, "steps", [("same", A)] * 121)
        self.refused(0, "steps", [("same", A)] * 500)

    def test_steps_go_ahead_of_each_step(self):
        self.refused(0, "steps", [("same", A), ("back", 7)] + [("same", A)] * 119)

    def test_the_first_step_that_does_not_fit(self):
        steps = [("same", A), ("chain", 0, 0), ("use", 0, fill(c=NIL)), ("back", 9), ("under", "f", (0, 0, 0, 0))]
        self.refused(2, "letter", steps)
        self.refused(3, "number", steps[:2] + [("same", B)] + steps[3:])
        self.refused(3, "many", steps[:2] + [("same", B)] + steps[4:])


class Order(PaperTest):
    def test_number_ahead_of_letter_and_size(self):
        self.refused(0, "number", [("use", 9, fill(q=SIZE_100))])
        self.refused(0, "number", [("fill", 0, fill(q=SIZE_100))])

    def test_letter_ahead_of_size(self):
        self.refused(0, "letter", [("use", 0, fill(a=SIZE_100, q=NIL))])
        self.refused(1, "letter", [("use", 0, ()), ("fill", 0, fill(a=SIZE_100, q=NIL))])

    def test_number_ahead_of_many(self):
        self.refused(1, "number", [("same", A), ("under", "f", (0, 0, 0, 1))])
        self.refused(1, "number", [("same", A), ("under", "f", (0, 0, 0, -1, 0))])

    def test_many_ahead_of_size(self):
        self.refused(1, "many", [("same", SIZE_100), ("under", "f", (0, 0, 0, 0))])

    def test_number_ahead_of_meet(self):
        self.refused(1, "number", [("use", 0, ()), ("chain", 0, 1)])


class BadPapers(unittest.TestCase):
    def bad(self, book, *steps):
        with self.assertRaises(BadTerm):
            shown((book, steps))

    def test_books(self):
        for at, book in enumerate(BAD_BOOKS):
            with self.subTest(at=at):
                self.bad(book, ("same", A))
                self.bad(book)
                self.bad(book, ("back", 5))

    def test_a_book_of_twenty_rules(self):
        book = (RULE,) * 19 + (PLUS_NIL,)
        self.assertEqual(shown((book, (("use", 19, ()),))), [PLUS_NIL])
        self.bad(book + (PLUS_NIL,), ("same", A))
        with self.assertRaises(NoStep) as caught:
            shown((book, (("use", 20, ()),)))
        self.assertEqual(caught.exception.why, "number")

    def test_an_empty_book(self):
        self.assertEqual(shown(((), (("same", A),))), [(A, A)])

    def test_rules_of_just_100(self):
        self.assertEqual(shown((((SIZE_100, NIL), (NIL, SIZE_100)), (("use", 1, ()),))), [(NIL, SIZE_100)])
        self.bad(((SIZE_101, NIL),), ("same", A))
        self.bad(((NIL, SIZE_101),), ("same", A))

    def test_terms_of_same(self):
        for at, term in enumerate(BAD_TERMS):
            with self.subTest(at=at):
                self.bad(BOOK, ("same", term))
                self.bad(BOOK, ("back", 5), ("same", term))

    def test_fillings(self):
        for at, filling in enumerate(BAD_FILLINGS):
            with self.subTest(at=at):
                self.bad(BOOK, ("use", 1, filling))
                self.bad(BOOK, ("use", -7, filling))
                self.bad(BOOK, ("same", sign("f", A, B)), ("fill", 0, filling))
                self.bad(BOOK, ("back", 5), ("fill", 90, filling))

    def test_signs_names_under(self):
        for name in BAD_NAMES:
            with self.subTest(name=name):
                self.bad(BOOK, ("under", name, ()))
                self.bad(BOOK, ("back", 5), ("under", name, (0, 0, 0, 0)))

    def test_ahead_of_the_number_of_steps(self):
        self.bad(BOOK, *[("same", A)] * 120, ("same", None))
        self.bad(BOOK, *[("same", A)] * 120, ("under", "F", ()))
        self.bad(BOOK, *[("same", A)] * 120, ("use", 0, []))


if __name__ == "__main__":
    unittest.main()
