"""Points 7 and 8: the walks of steps, told by their numbers."""

import random
import unittest

from proofshare.errors import ProofError, TooLong
from proofshare.papers import shown
from proofshare.unfolding import Unfolding
from proofshare.walks import walked
from tests.helper import NIL, doubling, fill, idle, sign, tower, x
from tests.naive import all_walks, chance_paper, done

A, B, C = x("a"), x("b"), x("c")
SWAP = (sign("plus", A, B), sign("plus", B, A))
PLUS_NIL = (sign("plus", A, NIL), A)
FORGET = (sign("fst", A, B), A)
MAKE = (NIL, sign("f", A))
BOOK = (PLUS_NIL, SWAP, FORGET, MAKE)


def s(term):
    return sign("s", term)


class WalkTest(unittest.TestCase):
    def walks(self, steps, book=BOOK):
        """The walks of all steps, told in each way and held against `walked`."""
        paper = (book, tuple(steps))
        unfolding = Unfolding(paper)
        told = []
        for number, (left, right) in enumerate(shown(paper)):
            length = unfolding.length(number)
            moves = unfolding.walk(number, length)
            self.assertIsInstance(moves, list)
            self.assertEqual(moves, [unfolding.move(number, k) for k in range(length)])
            terms = [unfolding.term(number, k) for k in range(length + 1)]
            self.assertEqual(terms, walked(book, left, moves))
            self.assertEqual(terms[-1], right)
            told.append(moves)
        return told

    def last(self, *steps, book=BOOK):
        return self.walks(steps, book)[-1]


class Forms(WalkTest):
    def test_use(self):
        self.assertEqual(self.last(("use", 1, fill(a=NIL, b=A))), [((), 1, 0, fill(a=NIL, b=A))])
        self.assertEqual(self.last(("use", 0, ())), [((), 0, 0, ())])
        self.assertEqual(self.last(("use", 2, fill(b=C))), [((), 2, 0, fill(b=C))])
        self.assertEqual(self.last(("use", 3, fill(a=C))), [((), 3, 0, fill(a=C))])

    def test_use_leaves_out_what_is_filled_by_itself(self):
        self.assertEqual(self.last(("use", 1, fill(a=A, b=A))), [((), 1, 0, fill(b=A))])
        self.assertEqual(self.last(("use", 1, fill(a=A, b=B))), [((), 1, 0, ())])
        self.assertEqual(self.last(("use", 1, fill(a=s(A), b=B))), [((), 1, 0, fill(a=s(A)))])
        self.assertEqual(self.last(("use", 1, fill(a=B, b=A))), [((), 1, 0, fill(a=B, b=A))])

    def test_same(self):
        self.assertEqual(self.last(("same", sign("plus", A, NIL))), [])
        unfolding = Unfolding((BOOK, (("same", SWAP[0]),)))
        self.assertEqual((unfolding.length(0), unfolding.term(0, 0)), (0, SWAP[0]))

    def test_back(self):
        use = ("use", 1, fill(a=NIL))
        self.assertEqual(self.last(use, ("back", 0)), [((), 1, 1, fill(a=NIL))])
        self.assertEqual(self.last(use, ("back", 0), ("back", 1)), [((), 1, 0, fill(a=NIL))])
        self.assertEqual(self.last(("same", A), ("back", 0)), [])

    def test_chain(self):
        steps = (("use", 1, fill(a=NIL, b=A)), ("use", 0, ()), ("chain", 0, 1))
        self.assertEqual(self.last(*steps), [((), 1, 0, fill(a=NIL, b=A)), ((), 0, 0, ())])

    def test_back_of_a_chain_goes_from_the_last_move_to_the_first(self):
        steps = (("use", 1, fill(a=NIL, b=A)), ("use", 0, ()), ("back", 1), ("chain", 0, 1), ("back", 3), ("chain", 3, 2))
        walks = self.walks((*steps, ("back", 5)))
        self.assertEqual(walks[4], [((), 0, 1, ()), ((), 1, 1, fill(a=NIL, b=A))])
        self.assertEqual(walks[6], [((), 0, 0, ()), ((), 0, 1, ()), ((), 1, 1, fill(a=NIL, b=A))])

    def test_a_same_within_a_chain(self):
        steps = (("use", 0, ()), ("same", A), ("same", PLUS_NIL[0]), ("chain", 0, 1), ("chain", 2, 3), ("chain", 1, 1))
        walks = self.walks(steps)
        self.assertEqual(walks[3:], [[((), 0, 0, ())], [((), 0, 0, ())], []])

    def test_under(self):
        steps = (("use", 0, ()), ("use", 3, ()), ("back", 1), ("chain", 1, 2), ("same", C))
        zero, make, unmake = ((), 0, 0, ()), ((), 3, 0, ()), ((), 3, 1, ())

        def at(number, move):
            return ((number,) + move[0],) + move[1:]

        self.assertEqual(self.last(*steps, ("under", "f", (3, 0, 1))), [
            at(0, make), at(0, unmake), at(1, zero), at(2, make),
        ])
        self.assertEqual(self.last(*steps, ("under", "f", (4, 3))), [at(1, make), at(1, unmake)])
        self.assertEqual(self.last(*steps, ("under", "f", (0,))), [at(0, zero)])
        self.assertEqual(self.last(*steps, ("under", "f", (1, 1, 1))), [at(0, make), at(1, make), at(2, make)])
        self.assertEqual(self.last(*steps, ("under", "f", (4, 4, 4))), [])

    def test_under_no_step(self):
        self.assertEqual(self.last(("under", "nil", ())), [])
        unfolding = Unfolding(((), (("under", "nil", ()),)))
        self.assertEqual((unfolding.length(0), unfolding.term(0, 0)), (0, NIL))

    def test_terms_under_a_sign(self):
        steps = (("use", 0, ()), ("use", 3, ()), ("under", "f", (0, 1, 0)))
        unfolding = Unfolding((BOOK, steps))
        before, after = PLUS_NIL
        self.assertEqual([unfolding.term(2, k) for k in range(4)], [
            sign("f", before, NIL, before),
            sign("f", after, NIL, before),
            sign("f", after, MAKE[1], before),
            sign("f", after, MAKE[1], after),
        ])

    def test_under_within_under(self):
        steps = (("use", 0, ()), ("same", B), ("under", "f", (1, 0)), ("under", "g", (1, 1, 2)), ("back", 3), ("under", "h", (4, 2)))
        self.assertEqual(self.last(*steps), [((0, 2, 1), 0, 1, ()), ((1, 1), 0, 0, ())])

    def test_fill(self):
        steps = (("use", 1, fill(a=s(A))), ("fill", 0, fill(a=NIL)))
        self.assertEqual(self.last(*steps), [((), 1, 0, fill(a=s(NIL)))])
        self.assertEqual(self.last(("same", A), ("fill", 0, fill(a=NIL))), [])

    def test_fill_goes_over_letters_that_the_move_left_alone(self):
        self.assertEqual(self.last(("use", 1, ()), ("fill", 0, fill(a=NIL))), [((), 1, 0, fill(a=NIL))])
        self.assertEqual(self.last(("use", 1, fill(a=s(B))), ("fill", 0, fill(b=C))), [((), 1, 0, fill(a=s(C), b=C))])
        # A letter of the side that is made only, and one of the side that is unmade only.
        self.assertEqual(self.last(("use", 3, ()), ("fill", 0, fill(a=NIL))), [((), 3, 0, fill(a=NIL))])
        self.assertEqual(self.last(("use", 2, ()), ("back", 0), ("fill", 1, fill(b=NIL))), [((), 2, 1, fill(b=NIL))])

    def test_fill_of_all_at_once(self):
        steps = (("use", 1, ()), ("fill", 0, fill(a=s(B), b=s(A))))
        self.assertEqual(self.last(*steps), [((), 1, 0, fill(a=s(B), b=s(A)))])

    def test_fill_leaves_out_what_comes_to_be_filled_by_itself(self):
        steps = (("use", 1, fill(a=B)), ("fill", 0, fill(b=A)))
        self.assertEqual(self.last(*steps), [((), 1, 0, fill(b=A))])
        steps = (("use", 1, fill(a=B, b=A)), ("fill", 0, fill(a=B, b=A)))
        self.assertEqual(self.last(*steps), [((), 1, 0, ())])
        self.assertEqual(self.last(("use", 0, ()), ("fill", 0, fill(a=A))), [((), 0, 0, ())])

    def test_fill_of_a_fill(self):
        steps = [("use", 1, fill(b=s(B))), ("fill", 0, fill(a=sign("g", B, C), b=A)), ("fill", 1, fill(a=B, c=NIL))]
        walks = self.walks(steps)
        self.assertEqual(walks[1], [((), 1, 0, fill(a=sign("g", B, C), b=s(A)))])
        self.assertEqual(walks[2], [((), 1, 0, fill(a=sign("g", B, NIL), b=s(B)))])

    def test_fill_goes_over_letters_in_the_middle_of_a_walk(self):
        # The letter stands in the terms between, where the rule has made it.
        book = ((NIL, sign("f", A)), (sign("g", B), sign("g", B)))
        steps = (
            ("use", 0, ()),
            ("back", 0),
            ("chain", 0, 1),
            ("use", 1, fill(b=A)),
            ("under", "h", (3, 2)),
            ("fill", 4, fill(a=C)),
        )
        walks = self.walks(steps, book)
        self.assertEqual(walks[5], [
            ((0,), 1, 0, fill(b=C)), ((1,), 0, 0, fill(a=C)), ((1,), 0, 1, fill(a=C)),
        ])

    def test_fill_stays_off_letters_that_are_not_its_own(self):
        steps = (("use", 3, ()), ("back", 0), ("chain", 0, 1), ("same", B), ("under", "h", (3, 2)), ("fill", 4, fill(b=NIL)))
        self.assertEqual(self.last(*steps), [((1,), 3, 0, ()), ((1,), 3, 1, ())])


class Chances(WalkTest):
    def test_walks_of_papers_made_by_chance(self):
        for seed in range(60):
            chance = random.Random(seed)
            paper = chance_paper(chance, chance.randrange(1, 30))
            with self.subTest(seed=seed):
                self.assertEqual(self.walks(paper[1], paper[0]), all_walks(paper))


class Lengths(unittest.TestCase):
    def test_all_forms(self):
        steps = (
            ("use", 0, ()), ("same", A), ("back", 0), ("chain", 0, 2), ("under", "f", (3, 1, 0)), ("fill", 4, fill(a=NIL)),
            ("under", "f", ()), ("under", "f", (3, 3)), ("chain", 3, 3),
        )
        unfolding = Unfolding((BOOK, steps))
        self.assertEqual([unfolding.length(number) for number in range(9)], [1, 0, 1, 2, 3, 3, 0, 4, 4])

    def test_three_times_and_more(self):
        # a = a by two moves, then three times under a sign, again and again.
        steps = [("use", 0, ()), ("back", 0), ("chain", 0, 1)]
        for number in range(2, 6):
            steps.append(("under", "f", (number,) * 2))
        unfolding = Unfolding((BOOK, tuple(steps)))
        self.assertEqual(unfolding.length(6), 2 * 2 ** 4)


class Beyond(unittest.TestCase):
    """Walks that no one could go through."""

    def setUp(self):
        self.unfolding = Unfolding((BOOK, doubling(59)))

    def test_length(self):
        self.assertEqual(self.unfolding.length(118), 2 ** 59)
        self.assertEqual(self.unfolding.length(117), 2 ** 58)

    def test_moves(self):
        # Each walk is one half and the same turned round: by turns, there and back.
        for k in (0, 1, 10 ** 15, 10 ** 15 + 1, 2 ** 58 - 1, 2 ** 58, 10 ** 17, 2 ** 59 - 1):
            with self.subTest(k=k):
                self.assertEqual(self.unfolding.move(118, k), ((), 0, k % 2, ()))

    def test_terms(self):
        for k in (0, 1, 10 ** 15, 10 ** 15 + 1, 2 ** 58 - 1, 2 ** 58, 10 ** 17, 2 ** 59 - 1, 2 ** 59):
            with self.subTest(k=k):
                self.assertEqual(self.unfolding.term(118, k), PLUS_NIL[k % 2])

    def test_walk(self):
        for most in (-1, 0, 1, 10 ** 15, 2 ** 59 - 1):
            with self.assertRaises(TooLong):
                self.unfolding.walk(118, most)
        self.assertEqual(len(self.unfolding.walk(20, 2 ** 60)), 2 ** 10)

    def test_a_step_behind_itself_again_and_again(self):
        steps = [("use", 0, ()), ("back", 0), ("chain", 0, 1)]
        steps.extend([("chain", number, number) for number in range(2, 119)])
        unfolding = Unfolding((BOOK, tuple(steps)))
        self.assertEqual(unfolding.length(119), 2 ** 118)
        for k in (0, 1, 10 ** 15, 10 ** 35 + 1, 2 ** 118 - 1):
            self.assertEqual(unfolding.move(119, k), ((), 0, k % 2, ()))
            self.assertEqual(unfolding.term(119, k), PLUS_NIL[k % 2])
        with self.assertRaises(TooLong):
            unfolding.walk(119, 10 ** 35)

    def test_each_move_fits_between_its_terms(self):
        """Three moves are doubled under signs, filled and turned round."""
        steps = [
            ("use", 1, fill(a=A, b=NIL)),
            ("use", 1, fill(a=NIL, b=A)),
            ("use", 0, ()),
            ("chain", 0, 1),
            ("chain", 3, 2),
            ("under", "pair", (4, 4)),
            ("fill", 5, fill(a=s(B))),
        ]
        while len(steps) < 120:
            number = len(steps) - 1
            steps.extend([("back", number), ("chain", number, number + 1), ("back", number + 2)][:120 - len(steps)])
        paper = (BOOK, tuple(steps))
        unfolding = Unfolding(paper)
        length = unfolding.length(119)
        self.assertGreater(length, 2 ** 37)
        for start in (0, 1, 5, 6, 7, 11, 12, length // 2 - 1, length // 2, 10 ** 10, 2 ** 37 + 12345, length - 3, length - 1):
            move = unfolding.move(119, start)
            with self.subTest(start=start):
                before, after = unfolding.term(119, start), unfolding.term(119, start + 1)
                self.assertEqual(walked(BOOK, before, [move]), [before, after])
        left, right = shown(paper)[-1]
        self.assertEqual(unfolding.term(119, 0), left)
        self.assertEqual(unfolding.term(119, length), right)

    def test_three_under_a_sign_in_all_steps(self):
        # The sign is unmade again, so that the walk may be tripled again.
        steps = [("use", 0, ()), ("back", 0), ("chain", 1, 0), ("use", 1, ()), ("back", 3)]
        book = ((sign("g", A), A), (sign("f", A, A, A), A))
        number = 2
        while len(steps) < 118:
            at = len(steps)
            steps.extend([("under", "f", (number,) * 3), ("chain", 4, at), ("chain", at + 1, 3)])
            number = at + 2
        paper = (book, tuple(steps))
        unfolding = Unfolding(paper)
        self.assertEqual(shown(paper)[number], (A, A))
        self.assertGreater(unfolding.length(number), 3 ** 38)
        term, moves = A, []
        for k in range(200):
            moves.append(unfolding.move(number, k))
            self.assertEqual(unfolding.term(number, k), term)
            term = done(book, term, moves[-1])
        self.assertEqual(walked(book, A, moves)[-1], term)
        for k in (10 ** 15, 10 ** 17 + 5, unfolding.length(number) // 2):
            before, after = unfolding.term(number, k), unfolding.term(number, k + 1)
            self.assertEqual(done(book, before, unfolding.move(number, k)), after)

    def test_terms_and_fillings_too_large_to_go_through(self):
        """The terms in the middle of the walk double while its ends stay small."""
        two = sign("two", A, A)
        steps = [("use", 0, ()), ("back", 0), ("chain", 1, 0)]
        number = 2
        while len(steps) < 118:
            at = len(steps)
            steps.extend([("fill", number, fill(a=two)), ("chain", 1, at), ("chain", at + 1, 0)])
            number = at + 2
        paper = (((two, A),), tuple(steps))
        unfolding = Unfolding(paper)
        self.assertEqual(unfolding.length(number), 80)
        self.assertEqual(storeys(unfolding.term(number, 40)), 40)
        self.assertEqual(storeys(unfolding.term(number, 17)), 17)
        self.assertEqual(unfolding.term(number, 80), A)
        place, rule, way, filling = unfolding.move(number, 39)
        self.assertEqual((place, rule, way), ((), 0, 1))
        self.assertEqual([(name, storeys(term)) for name, term in filling], [("a", 39)])
        self.assertEqual(storeys(unfolding.walk(number, 80)[41][3][0][1]), 38)

    def test_terms_deeper_than_the_stack(self):
        deep = tower(97, A)
        steps = [("use", 0, ()), ("back", 0), ("chain", 1, 0)]
        number = 2
        while len(steps) < 118:
            at = len(steps)
            steps.extend([("fill", number, fill(a=deep)), ("chain", 1, at), ("chain", at + 1, 0)])
            number = at + 2
        unfolding = Unfolding((((deep, A),), tuple(steps)))
        self.assertEqual(storeys(unfolding.term(number, 40)), 40 * 97)
        self.assertEqual(storeys(unfolding.move(number, 40)[3][0][1]), 39 * 97)
        self.assertEqual(storeys(unfolding.walk(number, 80)[40][3][0][1]), 39 * 97)


def storeys(term):
    """How many signs stand one in the other, always in the last part, above a letter."""
    many = 0
    while term[0] == "sign":
        term = term[2][-1]
        many += 1
    return many


class Most(unittest.TestCase):
    def setUp(self):
        self.unfolding = Unfolding((BOOK, (*doubling(4), ("same", A))))

    def test_just_the_most(self):
        for number, length in ((0, 1), (2, 2), (4, 4), (8, 16), (9, 0)):
            self.assertEqual(len(self.unfolding.walk(number, length)), length)
            self.assertEqual(len(self.unfolding.walk(number, 10 ** 30)), length)
            with self.assertRaises(TooLong):
                self.unfolding.walk(number, length - 1)

    def test_a_step_without_moves(self):
        self.assertEqual(self.unfolding.walk(9, 0), [])
        self.assertEqual(self.unfolding.walk(9, 5), [])

    def test_it_is_an_error_of_the_program(self):
        with self.assertRaises(ProofError):
            self.unfolding.walk(8, 15)


class Stays(unittest.TestCase):
    def test_told_lists_may_be_changed(self):
        unfolding = Unfolding((BOOK, doubling(3)))
        before = unfolding.walk(6, 8)
        for number in range(7):
            told = unfolding.walk(number, 8)
            told.reverse()
            told.clear()
            told.append(5)
        self.assertEqual(unfolding.walk(6, 8), before)
        self.assertEqual([unfolding.move(6, k) for k in range(8)], before)
        self.assertEqual(unfolding.length(6), 8)

    def test_the_same_again_in_any_order(self):
        paper = chance_paper(random.Random(5), 30)
        one, other = Unfolding(paper), Unfolding(paper)
        numbers = [(number, k) for number in range(30) for k in range(one.length(number))]
        told = [(one.move(*pair), one.term(*pair)) for pair in numbers]
        self.assertEqual(told, [(other.move(*pair), other.term(*pair)) for pair in numbers[::-1]][::-1])
        self.assertEqual(told, [(one.move(*pair), one.term(*pair)) for pair in numbers])

    def test_there_is_none_beyond(self):
        unfolding = Unfolding((BOOK, (*doubling(3), ("same", A))))
        for k in (-1, -8, 8, 9, 10 ** 20):
            self.assertIsNone(unfolding.move(6, k))
        for k in (-1, -8, 9, 10 ** 20):
            self.assertIsNone(unfolding.term(6, k))
        self.assertIsNone(unfolding.move(7, 0))
        self.assertIsNone(unfolding.term(7, 1))


class Idle(unittest.TestCase):
    def test_steps_that_are_not_needed_cost_nothing(self):
        # Behind the walk that is asked for stand others beyond counting.
        steps = (*doubling(59), *idle(1))
        unfolding = Unfolding((BOOK, steps))
        self.assertEqual(unfolding.walk(len(steps) - 1, 0), [])
        self.assertEqual(unfolding.walk(2, 2), [((), 0, 0, ()), ((), 0, 1, ())])


if __name__ == "__main__":
    unittest.main()
