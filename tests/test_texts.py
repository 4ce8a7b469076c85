"""Point 14: terms and papers written, and papers read."""

import copy
import random
import unittest

from proofshare.errors import BadTerm, BadText, ProofError
from proofshare.texts import read, term_text, written
from tests.helper import BAD_BOOKS, BAD_FILLINGS, BAD_NAMES, BAD_TERMS, NIL, RULE, SIZE_100, doubling, fill, sign, tower, x
from tests.naive import chance_paper

A, B = x("a"), x("b")
PLUS = sign("plus", A, NIL)


class TermText(unittest.TestCase):
    def test_terms_of_all_shapes(self):
        for term, text in (
            (x("x"), "?x"),
            (x("abcdefgh"), "?abcdefgh"),
            (sign("plus"), "plus"),
            (sign("plus", x("x"), NIL), "plus(?x,nil)"),
            (sign("s", NIL), "s(nil)"),
            (sign("s", A), "s(?a)"),
            (sign("f", A, NIL, B), "f(?a,nil,?b)"),
            (sign("f", sign("g", A), sign("h"), sign("g", sign("h", B, A))), "f(g(?a),h,g(h(?b,?a)))"),
            (sign("letter", x("sign")), "letter(?sign)"),
        ):
            with self.subTest(text=text):
                self.assertEqual(term_text(term), text)

    def test_a_hundred_storeys(self):
        self.assertEqual(term_text(SIZE_100), "s(" * 99 + "nil" + ")" * 99)
        self.assertEqual(term_text(tower(99, A)), "s(" * 99 + "?a" + ")" * 99)

    def test_bad_terms(self):
        for at, term in enumerate(BAD_TERMS):
            with self.subTest(at=at), self.assertRaises(BadTerm):
                term_text(term)


STEPS = (
    ("use", 0, ()),
    ("use", 119, fill(a=NIL)),
    ("use", 20, fill(a=PLUS, abcdefgh=x("abcdefgh"), b=sign("s", B))),
    ("same", sign("f", A, NIL, B)),
    ("back", 7),
    ("chain", 10, 100),
    ("under", "nil", ()),
    ("under", "s", (0,)),
    ("under", "plus", (3, 99)),
    ("under", "f", (1, 2, 3)),
    ("under", "f", (1, 2, 3, 4, 5)),
    ("fill", 3, ()),
    ("fill", 118, fill(a=B, b=A)),
)
ROWS = [
    "use 0",
    "use 119 a:nil",
    "use 20 a:plus(?a,nil) abcdefgh:?abcdefgh b:s(?b)",
    "same f(?a,nil,?b)",
    "back 7",
    "chain 10 100",
    "under nil",
    "under s 0",
    "under plus 3 99",
    "under f 1 2 3",
    "under f 1 2 3 4 5",
    "fill 3",
    "fill 118 a:?b b:?a",
]


class Written(unittest.TestCase):
    def test_each_form_of_row(self):
        for step, row in zip(STEPS, ROWS):
            with self.subTest(row=row):
                self.assertEqual(written(((), (step,))), row)
                self.assertEqual(read(row), ((), (step,)))

    def test_rules(self):
        book = ((PLUS, A), (NIL, sign("f", A, B, NIL)))
        self.assertEqual(written((book, STEPS[:1])), "rule plus(?a,nil) = ?a\nrule nil = f(?a,?b,nil)\nuse 0")

    def test_rows_with_line_ends_between(self):
        text = "\n".join(ROWS)
        self.assertEqual(written(((), STEPS)), text)
        self.assertEqual(read(text), ((), STEPS))
        book = (RULE, (PLUS, A))
        text = "rule ?a = ?a\nrule plus(?a,nil) = ?a\n" + text
        self.assertEqual(written((book, STEPS)), text)
        self.assertEqual(read(text), (book, STEPS))

    def test_numbers_of_all_kinds_are_written(self):
        for number, text in (
            (-1, "-1"), (-120, "-120"), (120, "120"), (1000, "1000"), (10 ** 18, "1" + "0" * 18), (10 ** 18 - 1, "9" * 18),
            (-10 ** 18, "-1" + "0" * 18), (10 ** 36 + 7, "1" + "0" * 35 + "7"), (123456789 * 10 ** 18 + 5, "123456789" + "0" * 17 + "5"),
        ):
            with self.subTest(text=text):
                rows = f"use {text} a:nil\nback {text}\nchain {text} 0\nchain 0 {text}\nunder f 1 {text} 2\nfill {text} a:?b"
                steps = (
                    ("use", number, fill(a=NIL)),
                    ("back", number),
                    ("chain", number, 0),
                    ("chain", 0, number),
                    ("under", "f", (1, number, 2)),
                    ("fill", number, fill(a=B)),
                )
                self.assertEqual(written(((), steps)), rows)
                for row in rows.split("\n"):
                    with self.assertRaises(BadText):
                        read(row)

    def test_numbers_longer_than_python_writes_at_once(self):
        self.assertEqual(written(((), (("back", 10 ** 5000 + 3),))), "back 1" + "0" * 4999 + "3")
        self.assertEqual(written(((), (("back", -10 ** 5000),))), "back -1" + "0" * 5000)

    def test_whether_its_steps_fit_is_not_looked_at(self):
        self.assertEqual(written(((), (("chain", 5, 5), ("use", 3, fill(q=NIL))))), "chain 5 5\nuse 3 q:nil")
        self.assertEqual(written(((), (("same", A),) * 121)), "\n".join(["same ?a"] * 121))
        self.assertEqual(written(((RULE,), ())), "rule ?a = ?a")
        self.assertEqual(written(((), ())), "")

    def test_what_is_handed_in_stays(self):
        paper = ((RULE,), STEPS)
        before = copy.deepcopy(paper)
        written(paper)
        self.assertEqual(paper, before)

    def bad(self, book, *steps):
        with self.assertRaises(BadTerm):
            written((book, steps))

    def test_bad_terms(self):
        for at, term in enumerate(BAD_TERMS):
            with self.subTest(at=at):
                self.bad((), ("back", 5), ("same", term))

    def test_bad_books(self):
        for at, book in enumerate(BAD_BOOKS):
            with self.subTest(at=at):
                self.bad(book, ("same", A))
                self.bad(book)

    def test_bad_fillings(self):
        for at, filling in enumerate(BAD_FILLINGS):
            with self.subTest(at=at):
                self.bad((), ("use", -5, filling))
                self.bad((), ("fill", 500, filling))

    def test_bad_signs_names(self):
        for name in BAD_NAMES:
            with self.subTest(name=name):
                self.bad((), ("under", name, (0, 0, 0, 0)))


class Read(unittest.TestCase):
    def back(self, paper):
        told = read(written(paper))
        self.assertEqual(told, paper)
        self.assertEqual(kinds(told), kinds(paper))

    def test_papers_made_by_chance(self):
        for seed in range(40):
            chance = random.Random(seed)
            self.back(chance_paper(chance, chance.randrange(1, 40)))

    def test_papers_whose_steps_do_not_fit(self):
        self.back(((), (("back", 119), ("chain", 119, 119), ("use", 119, fill(q=NIL)), ("under", "f", (0,) * 50), ("fill", 0, ()))))

    def test_a_paper_without_rules(self):
        self.back(((), (("same", A),)))

    def test_the_most_rules_and_steps(self):
        self.back(((RULE,) * 20, (("same", A),) * 120))
        self.back(((), doubling(59)))

    def test_the_largest_terms(self):
        third = tower(32, A)
        for term in (SIZE_100, tower(99, A), sign("f", third, third, third)):
            self.back((((term, NIL), (NIL, term)), (("same", term), ("use", 0, fill(a=term)), ("fill", 0, fill(a=NIL, b=term)))))

    def test_all_numbers(self):
        for number in range(120):
            self.assertEqual(read(f"back {number}"), ((), (("back", number),)))

    def test_names_like_words(self):
        self.back((((x("rule"), sign("use")),), (("same", sign("back", x("chain"))), ("under", "under", ()), ("under", "same", (1,)))))

    def test_names_of_a_filling_in_the_order_of_texts(self):
        self.back(((), (("use", 0, (("a", NIL), ("aa", NIL), ("ab", NIL), ("b", NIL))),)))


def kinds(value):
    """The kinds of values in a paper, tuples in tuples."""
    if isinstance(value, tuple):
        return tuple(kinds(part) for part in value)
    return value.__class__


class NoTexts(unittest.TestCase):
    def bad(self, *texts):
        for text in texts:
            with self.subTest(text=text[:60]), self.assertRaises(BadText) as caught:
                read(text)
            self.assertIsInstance(caught.exception, ProofError)

    def bad_rows(self, *rows):
        """None of these rows may stand in a text, wherever it is."""
        for row in rows:
            self.bad(row, row + "\nsame ?a", "same ?a\n" + row, "rule ?a = ?a\n" + row + "\nback 0")

    def bad_words(self, *words):
        """None of these is a term, in any row."""
        for word in words:
            self.bad_rows(f"same {word}", f"rule {word} = nil", f"rule nil = {word}", f"use 0 a:{word}", f"fill 0 a:nil b:{word}")

    def bad_numbers(self, *words):
        for word in words:
            self.bad_rows(
                f"use {word}", f"use {word} a:nil", f"back {word}", f"chain {word} 0", f"chain 0 {word}",
                f"under f {word}", f"under f 0 {word}", f"under f {word} 0 1", f"fill {word}", f"fill {word} a:nil",
            )

    def test_an_empty_text(self):
        self.bad("", " ", "\n", "\n\n")

    def test_an_empty_row(self):
        self.bad("\nsame ?a", "same ?a\n\nsame ?a", "rule ?a = ?a\n\nsame ?a")

    def test_a_row_end_too_many(self):
        self.bad("same ?a\n", "rule ?a = ?a\nback 0\n", "same ?a\n\n")

    def test_other_row_ends(self):
        self.bad("same ?a\r\nback 0", "same ?a\r", "same ?a\rback 0", "same ?a\x0bback 0", "same ?a\x0cback 0", "same ?a\u2028back 0")

    def test_a_blank_more(self):
        rows = ROWS + ["use 0 a:nil b:nil", "same ?a"]
        for row in rows:
            self.bad_rows(" " + row, row + " ")
            at = row.find(" ")
            while at >= 0:
                self.bad_rows(row[:at] + " " + row[at:], row[:at] + "\t" + row[at + 1:])
                at = row.find(" ", at + 1)
        self.bad("rule  ?a = ?a\nsame ?a", "rule ?a  = ?a\nsame ?a", "rule ?a =  ?a\nsame ?a", "rule ?a = ?a \nsame ?a", " rule ?a = ?a\nsame ?a")

    def test_a_blank_in_a_term(self):
        self.bad_words("plus(?a, nil)", "plus (?a)", "plus( ?a)", "plus(?a )", "plus(?a\t)", "? a", "\t?a", "?a\t", "\u00a0?a")
        self.bad_rows("use 0 a: nil", "use 0 a :nil", "use 0\u00a0a:nil")

    def test_a_word_more_or_fewer(self):
        self.bad_rows(
            "use", "same", "back", "chain", "chain 0", "under", "fill", "same ?a ?a", "same ?a 0", "back 0 0", "chain 0 0 0",
            "use 0 0", "use 0 1 a:nil", "fill 0 0", "use a:nil", "fill a:nil", "under 0", "under 0 f", "under f g", "under f a:nil",
            "use 0 nil", "fill 0 ?a", "back 0 a:nil", "chain 0 0 a:nil", "same ?a a:nil", "under f 0 a:nil",
        )

    def test_a_word_that_is_none(self):
        self.bad_rows("", "other 0", "Use 0", "USE 0", "uses 0", "use0", "step 0", "0", "?a", "nil", "same(?a)", "rules ?a = ?a", "0 use")

    def test_a_rule_behind_a_step(self):
        self.bad("same ?a\nrule ?a = ?a", "rule ?a = ?a\nsame ?a\nrule ?a = ?a\nback 0", "same ?a\nrule ?a = ?a\nsame ?a")

    def test_rules_alone(self):
        self.bad("rule ?a = ?a", "rule ?a = ?a\nrule nil = nil", "\n".join(["rule ?a = ?a"] * 20))

    def test_too_many_rules_and_steps(self):
        self.bad("rule ?a = ?a\n" * 21 + "same ?a", "rule ?a = ?a\n" * 50 + "same ?a")
        self.bad("\n".join(["same ?a"] * 121), "\n".join(["same ?a"] * 500), "rule ?a = ?a\n" * 20 + "\n".join(["back 0"] * 121))

    def test_numbers(self):
        self.bad_numbers(
            "00", "01", "007", "000", "0119", "120", "121", "200", "999", "1000", "-1", "-0", "+1", "1.0", "1e1", "0x1", "1_0", "a", "?a",
            "\u0663", "\u00b2", "\uff11", "1\n2", "9" * 5000, "-" + "9" * 5000, "0" * 5000, "1,2", "(1)",
        )

    def test_terms_without_an_end(self):
        self.bad_words("plus(", "plus(?a", "plus(?a,", "plus(?a,nil", "f(g(?a)", "f(g(?a),nil", "f(g(?a,nil)")

    def test_an_empty_part(self):
        self.bad_words("f(,)", "f(?a,)", "f(,?a)", "f(?a,,nil)", "f(,,)", "f(g(,),nil)", "f(())", "f((?a))", "(?a)", "(,)")

    def test_brackets_behind_a_sign_without_parts(self):
        self.bad_words("nil()", "f(nil())", "f(nil(),?a)", "f()()")

    def test_something_behind_a_term(self):
        self.bad_words("nil)", "f(?a))", "f(?a)nil", "f(?a)(nil)", "?a(nil)", "?a()", "f(?a(nil))", "f(?a)?b", "nil,nil", "f(?a),", "f(?a)f(?a)")
        self.bad_words("f(?a(nil)", "f(?a(nil,?b)", "f(g(?a)(nil)", "f(g(?a)h)", "f(g(?a)h,nil)", "f(g(?a)?b)", "f(?a?b)", "f(?a(?b(nil)")

    def test_no_term_at_all(self):
        self.bad_words("", "?", "??a", "(", ")", ",", "()", "f?a", "a?", "f(?)", "f(??a)", ":", "a:nil", "=", "?a=?b")

    def test_names(self):
        self.bad_words(
            "abcdefghi", "?abcdefghi", "f(abcdefghi)", "A", "?A", "f(?aB)", "Nil", "a1", "?x1", "f(a_b)", "f-g", "?\u00e9", "\u00e9", "f(\u00df)",
        )
        for name in ("abcdefghi", "F", "f1", "?f", "f(nil)", "", "\u00e9", "f,"):
            self.bad_rows(f"under {name}", f"under {name} 0")
        for name in ("abcdefghi", "F", "f1", "?f", "f(nil)", "", "\u00e9"):
            self.bad_rows(f"use 0 {name}:nil", f"fill 0 {name}:nil")

    def test_four_parts(self):
        self.bad_words("f(?a,?a,?a,?a)", "f(nil,nil,nil,nil,nil)", "g(f(?a,?a,?a,?a))")

    def test_a_term_of_a_size_of_101(self):
        self.bad_words("s(" * 100 + "nil" + ")" * 100, "s(" * 100 + "?a" + ")" * 100, "s(" * 100000 + "nil" + ")" * 100000, "s(" * 100000)
        wide = "f(" + ",".join(["g(" + ",".join(["h(?a,?a,?a)"] * 3) + ")"] * 3) + ")"
        self.assertEqual(read(f"same {wide}")[1][0][1][1], "f")
        self.bad_words("f(" + ",".join([wide] * 3) + ")")

    def test_fillings(self):
        for word in ("use", "fill"):
            self.bad_rows(
                f"{word} 0 b:nil a:nil", f"{word} 0 a:nil a:nil", f"{word} 0 a:nil a:?b", f"{word} 0 a:nil c:nil b:nil",
                f"{word} 0 a:nil b:nil b:nil", f"{word} 0 b:nil aa:nil", f"{word} 0 a", f"{word} 0 anil", f"{word} 0 a:nil b", f"{word} 0 a:",
                f"{word} 0 :nil", f"{word} 0 :", f"{word} 0 a::nil", f"{word} 0 a:nil:nil", f"{word} 0 a:b:nil", f"{word} 0 a=nil", f"{word} 0 ?a:nil",
                f"{word} 0 a:nil,b:nil",
            )

    def test_rules(self):
        self.bad_rows(
            "rule", "rule ?a", "rule ?a =", "rule = ?a", "rule ?a ?a", "rule ?a == ?a", "rule ?a=?a", "rule ?a = ?a ?a", "rule ?a = ?a = ?a",
            "rule ?a =?a", "rule ?a= ?a", "rule ?a - ?a", "rule 0 ?a = ?a", "rule = = =", "Rule ?a = ?a",
        )


if __name__ == "__main__":
    unittest.main()
