"""Points 2, 4 and 6 over all that is asked of a paper but its text."""

import unittest

from proofshare.errors import BadTerm, NoStep
from proofshare.papers import shown
from proofshare.sharing import set_in_order, shortened, told_apart, uses
from proofshare.unfolding import Unfolding
from tests.helper import BAD_BOOKS, BAD_FILLINGS, BAD_NAMES, BAD_TERMS, NIL, RULE, SIZE_100, fill, sign, x

A, B = x("a"), x("b")
BOOK = ((sign("plus", A, NIL), A), RULE)
FITS = (BOOK, (("same", A),))


def apart_one(paper):
    return told_apart(paper, FITS)


def apart_other(paper):
    return told_apart(FITS, paper)


ASKED = [shown, Unfolding, shortened, set_in_order, apart_one, apart_other, uses]

# Steps behind ("same", A) and ("use", 0, ()), and the word for each.
NO_STEPS = [
    (("use", 2, ()), "number"),
    (("use", -1, ()), "number"),
    (("use", 10 ** 30, fill(q=SIZE_100)), "number"),
    (("back", 2), "number"),
    (("back", -1), "number"),
    (("chain", 2, 0), "number"),
    (("chain", 0, 3), "number"),
    (("chain", 1, -1), "number"),
    (("under", "f", (0, 2)), "number"),
    (("under", "f", (0, 0, 0, 5)), "number"),
    (("fill", 2, fill(q=NIL)), "number"),
    (("use", 0, fill(b=NIL)), "letter"),
    (("use", 0, fill(a=SIZE_100, q=NIL)), "letter"),
    (("fill", 1, fill(b=NIL)), "letter"),
    (("under", "f", (0, 0, 0, 0)), "many"),
    (("chain", 0, 1), "meet"),
    (("chain", 1, 1), "meet"),
    (("use", 0, fill(a=SIZE_100)), "size"),
    (("fill", 1, fill(a=SIZE_100)), "size"),
]


class NoSteps(unittest.TestCase):
    def refused(self, number, why, paper):
        for ask in ASKED:
            with self.subTest(ask=ask.__name__, why=why), self.assertRaises(NoStep) as caught:
                ask(paper)
            self.assertEqual((caught.exception.number, caught.exception.why), (number, why))

    def test_the_steps_fit_without_it(self):
        for ask in ASKED:
            ask((BOOK, (("same", A), ("use", 0, ()))))

    def test_each_word(self):
        for step, why in NO_STEPS:
            self.refused(2, why, (BOOK, (("same", A), ("use", 0, ()), step)))
            # Also where no later step leans on it.
            self.refused(2, why, (BOOK, (("same", A), ("use", 0, ()), step, ("same", A))))

    def test_the_first_that_does_not_fit(self):
        for step, why in NO_STEPS:
            self.refused(2, why, (BOOK, (("same", A), ("use", 0, ()), step, ("back", 9), ("chain", 0, 1))))

    def test_steps(self):
        self.refused(0, "steps", (BOOK, ()))
        self.refused(0, "steps", (BOOK, (("same", A),) * 121))
        self.refused(0, "steps", (BOOK, (("back", 5),) * 121))

    def test_120_steps(self):
        for ask in ASKED:
            ask((BOOK, (("same", A),) * 120))

    def test_of_two_papers_the_first_one_is_told(self):
        with self.assertRaises(NoStep) as caught:
            told_apart((BOOK, (("same", A), ("back", 3))), (BOOK, (("back", 3),)))
        self.assertEqual(caught.exception.number, 1)


class BadTerms(unittest.TestCase):
    def bad(self, book, *steps):
        for ask in ASKED:
            with self.subTest(ask=ask.__name__), self.assertRaises(BadTerm):
                ask((book, steps))
        # In either paper ahead of a step of the other one that does not fit.
        for other in ((BOOK, (("back", 3),)), (BOOK, ())):
            with self.assertRaises(BadTerm):
                told_apart((book, steps), other)
            with self.assertRaises(BadTerm):
                told_apart(other, (book, steps))

    def test_books(self):
        for book in BAD_BOOKS:
            self.bad(book, ("same", A))
            self.bad(book)

    def test_terms(self):
        for term in BAD_TERMS:
            self.bad(BOOK, ("back", 5), ("same", term))

    def test_fillings(self):
        for filling in BAD_FILLINGS:
            self.bad(BOOK, ("use", -7, filling))
            self.bad(BOOK, ("same", sign("f", A, B)), ("fill", 0, filling))

    def test_signs_names(self):
        for name in BAD_NAMES:
            self.bad(BOOK, ("back", 5), ("under", name, (0, 0, 0, 0)))

    def test_ahead_of_the_number_of_steps(self):
        self.bad(BOOK, *[("same", A)] * 120, ("same", None))
        self.bad(BOOK + ((NIL, None),), *[("same", A)] * 121)
        self.bad(BOOK, *[("same", A)] * 120, ("under", "F", ()))
        self.bad(BOOK, *[("same", A)] * 120, ("use", 0, []))


if __name__ == "__main__":
    unittest.main()
