"""Points 2, 3 and 4: names, terms, sizes, fillings and places."""

import unittest

from proofshare.errors import BadTerm
from proofshare.terms import filled, letters, part_at, size
from tests.helper import BAD_FILLINGS, BAD_TERMS, NIL, SIZE_100, SIZE_101, sign, tower, x

PLUS = sign("plus", x("b"), sign("s", x("a")), x("b"))


class Sizes(unittest.TestCase):
    def test_letters_and_signs_count(self):
        self.assertEqual(size(x("a")), 1)
        self.assertEqual(size(NIL), 1)
        self.assertEqual(size(sign("s", x("a"))), 2)
        self.assertEqual(size(sign("two", NIL, NIL)), 3)
        self.assertEqual(size(PLUS), 5)

    def test_parts_that_are_one_tuple_count_each(self):
        part = sign("two", x("a"), NIL)
        self.assertEqual(size(sign("three", part, part, part)), 10)

    def test_a_size_of_100(self):
        self.assertEqual(size(SIZE_100), 100)
        self.assertEqual(size(tower(99, x("a"))), 100)
        wide = tower(32, NIL)
        self.assertEqual(size(sign("three", wide, wide, wide)), 100)

    def test_a_size_of_101_is_refused(self):
        wide = tower(32, NIL)
        for term in (SIZE_101, tower(100, x("a")), sign("three", wide, wide, sign("s", wide))):
            with self.assertRaises(BadTerm):
                size(term)


class Names(unittest.TestCase):
    def test_names_of_one_and_of_eight_letters(self):
        for name in ("a", "z", "az", "abcdefgh", "zzzzzzzz", "letter", "sign"):
            with self.subTest(name=name):
                self.assertEqual(size(("letter", name)), 1)
                self.assertEqual(size(("sign", name, ())), 1)
                self.assertEqual(letters(("letter", name)), [name])
                self.assertEqual(filled(x("b"), (("b", x(name)),)), x(name))
                self.assertEqual(filled(x(name), ((name, NIL),)), NIL)


class BadTerms(unittest.TestCase):
    def test_refused_by_each_function(self):
        for at, term in enumerate(BAD_TERMS):
            with self.subTest(at=at):
                with self.assertRaises(BadTerm):
                    size(term)
                with self.assertRaises(BadTerm):
                    letters(term)
                with self.assertRaises(BadTerm):
                    filled(term, ())
                with self.assertRaises(BadTerm):
                    part_at(term, ())
                with self.assertRaises(BadTerm):
                    part_at(term, (7, -1))

    def test_fillings(self):
        for at, filling in enumerate(BAD_FILLINGS):
            with self.subTest(at=at):
                for term in (NIL, x("a"), PLUS):
                    with self.assertRaises(BadTerm):
                        filled(term, filling)

    def test_a_sign_has_at_most_three_parts(self):
        self.assertEqual(size(sign("f", NIL, NIL, NIL)), 4)
        with self.assertRaises(BadTerm):
            size(sign("f", NIL, NIL, NIL, NIL))


class Letters(unittest.TestCase):
    def test_ascending_and_each_once(self):
        self.assertEqual(letters(PLUS), ["a", "b"])
        self.assertEqual(letters(sign("f", x("z"), x("ab"), sign("g", x("b"), x("z"), x("a")))), ["a", "ab", "b", "z"])

    def test_none(self):
        self.assertEqual(letters(NIL), [])
        self.assertEqual(letters(sign("a", sign("b"))), [])

    def test_a_told_list_may_be_changed(self):
        told = letters(PLUS)
        told.append("q")
        told[0] = "r"
        self.assertEqual(letters(PLUS), ["a", "b"])


class Filled(unittest.TestCase):
    def test_each_place_of_a_letter(self):
        self.assertEqual(filled(PLUS, (("b", NIL),)), sign("plus", NIL, sign("s", x("a")), NIL))
        self.assertEqual(filled(x("a"), (("a", PLUS),)), PLUS)

    def test_all_at_once(self):
        swap = (("a", x("b")), ("b", x("a")))
        self.assertEqual(filled(PLUS, swap), sign("plus", x("a"), sign("s", x("b")), x("a")))
        ring = (("a", sign("s", x("b"))), ("b", sign("s", x("c"))), ("c", x("a")))
        told = filled(sign("f", x("a"), x("b"), x("c")), ring)
        self.assertEqual(told, sign("f", sign("s", x("b")), sign("s", x("c")), x("a")))

    def test_a_term_that_holds_the_letter_that_it_fills(self):
        own = (("a", sign("two", x("a"), x("a"))),)
        self.assertEqual(filled(sign("s", x("a")), own), sign("s", sign("two", x("a"), x("a"))))
        self.assertEqual(filled(PLUS, (("b", x("b")),)), PLUS)

    def test_other_letters_stay_and_other_names_do_nothing(self):
        self.assertEqual(filled(PLUS, ()), PLUS)
        self.assertEqual(filled(PLUS, (("c", NIL), ("z", NIL))), PLUS)

    def test_signs_of_that_name_stay(self):
        self.assertEqual(filled(sign("a", x("a")), (("a", NIL),)), sign("a", NIL))
        self.assertEqual(filled(sign("a"), (("a", NIL),)), sign("a"))

    def test_the_told_term_may_be_of_any_size(self):
        told = filled(tower(99, x("a")), (("a", SIZE_100),))
        self.assertEqual(told, tower(198, NIL))
        three = sign("f", x("a"), x("a"), x("a"))
        told = filled(sign("f", three, three, three), (("a", SIZE_100),))
        three = sign("f", SIZE_100, SIZE_100, SIZE_100)
        self.assertEqual(told, sign("f", three, three, three))

    def test_names_of_a_filling_ascend_as_texts(self):
        self.assertEqual(filled(x("b"), (("a", NIL), ("ab", NIL), ("b", PLUS))), PLUS)


class Places(unittest.TestCase):
    def test_places_that_there_are(self):
        self.assertEqual(part_at(PLUS, ()), PLUS)
        self.assertEqual(part_at(PLUS, (0,)), x("b"))
        self.assertEqual(part_at(PLUS, (1,)), sign("s", x("a")))
        self.assertEqual(part_at(PLUS, (2,)), x("b"))
        self.assertEqual(part_at(PLUS, (1, 0)), x("a"))
        self.assertEqual(part_at(x("a"), ()), x("a"))
        self.assertEqual(part_at(SIZE_100, (0,) * 99), NIL)
        deep = sign("f", NIL, sign("g", NIL, NIL, sign("h", x("q"), NIL)))
        self.assertEqual(part_at(deep, (1, 2, 0)), x("q"))

    def test_places_that_there_are_not(self):
        for place in ((3,), (-1,), (-3,), (1, 1), (1, -1), (0, 0), (1, 0, 0), (10 ** 30,), (-10 ** 30,), (3, 0), (-1, 0)):
            with self.subTest(place=place):
                self.assertIsNone(part_at(PLUS, place))
        self.assertIsNone(part_at(x("a"), (0,)))
        self.assertIsNone(part_at(x("a"), (1,)))
        self.assertIsNone(part_at(NIL, (0,)))
        self.assertIsNone(part_at(NIL, (-1,)))
        self.assertIsNone(part_at(SIZE_100, (0,) * 100))
        self.assertIsNone(part_at(SIZE_100, (0,) * 100000))


if __name__ == "__main__":
    unittest.main()
