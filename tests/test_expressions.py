"""[13]: texts of EXPRESSIONS."""

import unittest

from earley import fault_of
from support import ANY, check_unchanged, random_expression, rng_of
from unwaited.errors import LoopError, NoText, Wrong
from unwaited.expressions import read_expression, show_expression
from unwaited.forms import is_expression

A, B, C, D, E = (("read", name, 0) for name in "abcde")
WORDS = ["a", "b", "abcdefghijkl", "abcdefghijklm", "round", "if", "then", "else", "task", "@", "(", ")", "+", "-",
         "*", "<", "0", "1", "9999", "10000", "007", "-1", "A", "a1", ">", "=", "#", "()", "a@1", "1\n", "\n"]


def place_of(text):
    """The place of the fault in a text, None if there is none."""
    try:
        read_expression(text)
    except NoText as error:
        return error.place
    return None


class Reading(unittest.TestCase):
    def check(self, text, expression):
        self.assertEqual(check_unchanged(self, read_expression, text), expression)

    def test_atoms(self):
        self.check("0", ("number", 0))
        self.check("9999", ("number", 9999))
        self.check("round", ("round",))
        self.check("a", A)
        self.check("zzzzzzzzzzzz", ("read", "zzzzzzzzzzzz", 0))
        self.check("a @ 1", ("read", "a", 1))
        self.check("a @ 10000", ("read", "a", 10000))
        self.check("a @ " + "9" * 2900, ("read", "a", int("9" * 2900)))
        self.check("  ( ( a ) )   ", A)

    def test_rows_from_the_left(self):
        self.check("a - b - c", ("two", "-", ("two", "-", A, B), C))
        self.check("a - b + c", ("two", "+", ("two", "-", A, B), C))
        self.check("a * b * c", ("two", "*", ("two", "*", A, B), C))
        self.check("a - ( b - c )", ("two", "-", A, ("two", "-", B, C)))

    def test_what_binds_more_tightly(self):
        self.check("a + b * c", ("two", "+", A, ("two", "*", B, C)))
        self.check("a * b + c", ("two", "+", ("two", "*", A, B), C))
        self.check("a + b < c * d", ("two", "<", ("two", "+", A, B), ("two", "*", C, D)))
        self.check("a < b + c - d", ("two", "<", A, ("two", "-", ("two", "+", B, C), D)))
        self.check("( a < b ) * c", ("two", "*", ("two", "<", A, B), C))
        self.check("( a < b ) < c", ("two", "<", ("two", "<", A, B), C))
        self.check("a < ( b < c )", ("two", "<", A, ("two", "<", B, C)))

    def test_choices(self):
        self.check("if a then b else c", ("if", A, B, C))
        self.check("if a then b else c + d < e", ("if", A, B, ("two", "<", ("two", "+", C, D), E)))
        self.check("if a then if b then c else d else e", ("if", A, ("if", B, C, D), E))
        self.check("if if a then b else c then d else e", ("if", ("if", A, B, C), D, E))
        self.check("if a then b else if c then d else e", ("if", A, B, ("if", C, D, E)))
        self.check("( if a then b else c ) + d", ("two", "+", ("if", A, B, C), D))
        self.check("if a < b then c < d else ( e )", ("if", ("two", "<", A, B), ("two", "<", C, D), E))

    def test_faults(self):
        for text, place in [("", 0), ("   ", 0), ("a +", 2), ("a b", 1), ("a < b < c", 3), ("a + if b then c else d", 2),
                            ("a < if b then c else d", 2), ("a * if b then c else d", 2), ("a @ 0", 2), ("a @ 01", 2),
                            ("a @", 2), ("a @ b", 2), ("a @ 1 @ 2", 3), ("round @ 1", 1), ("1 @ 1", 1), ("( a ) @ 1", 3),
                            ("10000", 0), ("01", 0), ("00", 0), ("-1", 0), ("- 1", 0), ("( a", 2), ("( )", 1),
                            ("a )", 1), ("( a ) )", 3), (")", 0), ("then", 0), ("if a else b", 2), ("if a then b", 4),
                            ("if a then b else", 5), ("if a then b then c", 4), ("if a then b else c else d", 6),
                            ("if a then b else c then d", 6), ("if", 1), ("a then", 1), ("( if a then b )", 5),
                            ("if ( a then b", 3), ("task", 0), ("wait + a", 0), ("a + first", 2), ("a\nb", 0),
                            ("a + \n b", 2), ("\n", 0), ("A", 0), ("a1", 0), ("a+b", 0), ("a + +", 2), ("a / b", 1),
                            ("a + b @ 0", 4), ("( a + 1", 4), ("if a then b else c < d < e", 8), ("a\t+ b", 0),
                            ("abcdefghijklm", 0), ("( a < b < c )", 4), ("a < ( b ) < c", 5)]:
            self.assertEqual(place_of(text), place, text)

    def test_digits_of_other_scripts(self):
        for text, place in [(chr(0x663), 0), (chr(0xb2), 0), ("a @ " + chr(0x663), 2), ("a + " + chr(0xe9), 2)]:
            self.assertEqual(place_of(text), place, text)

    def test_faults_by_the_rules(self):
        rng = rng_of(5)
        for _ in range(4000):
            words = show_expression(random_expression(rng, ["a", "b"], rng.randrange(5), 2)).split()
            for _ in range(rng.randrange(4)):
                at = rng.randrange(len(words) + 1)
                words[at:at + rng.randrange(2)] = [rng.choice(WORDS)] * rng.randrange(2)
            del words[rng.randrange(len(words) + 1) + rng.randrange(20):]
            if len(words) <= 120:
                text = " ".join(words)
                self.assertEqual(place_of(text), fault_of([word for word in text.split(" ") if word]), text)

    def test_faults_in_rows_of_any_words(self):
        rng = rng_of(6)
        for _ in range(4000):
            words = [rng.choice(WORDS[:20]) for _ in range(rng.randrange(8))]
            self.assertEqual(place_of(" ".join(words)), fault_of(words), words)

    def test_many_words(self):
        for many, place in [(117, None), (119, None), (121, 120), (123, 120), (999, 120)]:
            text = " + ".join(["a"] * ((many + 1) // 2))
            self.assertEqual(len(text.split()), many)
            self.assertEqual(place_of(text), place, many)
        text = " + ".join(["a"] * 59)
        self.assertIsNone(place_of(text + " @ 1"))
        self.assertIsNone(place_of("( " + text + " )"))
        self.assertEqual(place_of(text + " +"), 118)
        self.assertEqual(place_of(text + " + b @ 1"), 120)
        self.assertEqual(place_of(text + " + a"), None)
        self.assertEqual(place_of(text + " + a +"), 120)

    def test_just_120_words(self):
        text = "if a then b else " + " + ".join(["a"] * 58)
        self.assertEqual(len(text.split()), 120)
        self.assertIsNone(place_of(text))
        self.assertEqual(place_of(text + " +"), 120)
        self.assertEqual(place_of(text + " ?"), 120)
        self.assertEqual(place_of(text[:-1] + "?"), 119)
        self.assertEqual(place_of(text[:-1] + "? +"), 119)
        self.assertEqual(place_of("( " * 119 + "a"), 120)
        self.assertEqual(place_of("( " * 120), 120)
        self.assertEqual(place_of("( " * 121), 120)
        self.assertEqual(place_of("( " * 59 + "a" + " )" * 59), None)
        self.assertEqual(place_of("( " * 59 + "a" + " )" * 60), 119)
        self.assertEqual(place_of("( " * 60 + "a" + " )" * 60), 120)
        self.assertEqual(place_of("a + " * 60), 120)
        self.assertEqual(place_of("if " * 119 + "a"), 120)
        self.assertEqual(place_of("a " * 200), 1)

    def test_wrong(self):
        for thing in ANY:
            if isinstance(thing, str):
                try:
                    self.assertTrue(is_expression(read_expression(thing)))
                except LoopError as error:
                    self.assertIs(type(error), NoText)
            else:
                with self.assertRaises(Wrong) as caught:
                    read_expression(thing)
                self.assertEqual(caught.exception.place, 0)


class Showing(unittest.TestCase):
    def test_both_ways(self):
        rng = rng_of(7)
        for _ in range(3000):
            expression = random_expression(rng, ["a", "b"], rng.randrange(6), 3)
            text = check_unchanged(self, show_expression, expression)
            self.assertEqual(" ".join(text.split()), text)
            if len(text.split()) <= 120:
                self.assertEqual(read_expression(text), expression)

    def test_no_bracket_is_needless(self):
        rng = rng_of(8)
        for _ in range(2000):
            expression = random_expression(rng, ["a", "b"], rng.randrange(5), 3)
            words = show_expression(expression).split()
            if len(words) > 120:
                continue
            opened = []
            for at, word in enumerate(words):
                if word == "(":
                    opened.append(at)
                elif word == ")":
                    begin = opened.pop()
                    try:
                        again = read_expression(" ".join(words[:begin] + words[begin + 1:at] + words[at + 1:]))
                    except NoText:
                        again = None
                    if again == expression:
                        self.assertEqual(words[begin + 1], "if", " ".join(words))

    def test_brackets(self):
        for expression, text in [
                (("two", "-", A, ("two", "-", B, C)), "a - ( b - c )"),
                (("two", "-", ("two", "-", A, B), C), "a - b - c"),
                (("two", "+", A, ("two", "+", B, C)), "a + ( b + c )"),
                (("two", "+", A, ("two", "*", B, C)), "a + b * c"),
                (("two", "*", A, ("two", "*", B, C)), "a * ( b * c )"),
                (("two", "*", ("two", "*", A, B), C), "a * b * c"),
                (("two", "*", ("two", "+", A, B), C), "( a + b ) * c"),
                (("two", "<", ("two", "+", A, B), ("two", "-", C, D)), "a + b < c - d"),
                (("two", "<", ("two", "<", A, B), C), "( a < b ) < c"),
                (("two", "<", A, ("two", "<", B, C)), "a < ( b < c )"),
                (("two", "+", ("two", "<", A, B), C), "( a < b ) + c"),
                (("if", A, B, C), "if a then b else c"),
                (("if", ("if", A, B, C), D, E), "if ( if a then b else c ) then d else e"),
                (("if", A, ("if", B, C, D), E), "if a then ( if b then c else d ) else e"),
                (("if", A, B, ("if", C, D, E)), "if a then b else ( if c then d else e )"),
                (("if", ("two", "<", A, B), ("two", "<", A, B), ("two", "<", A, B)),
                 "if a < b then a < b else a < b"),
                (("two", "<", ("if", A, B, C), D), "( if a then b else c ) < d"),
                (("two", "*", A, ("if", B, C, D)), "a * ( if b then c else d )"),
                (("read", "a", 0), "a"), (("read", "a", 12), "a @ 12"), (("number", 0), "0"), (("round",), "round")]:
            self.assertEqual(show_expression(expression), text)
            self.assertEqual(read_expression(text), expression)

    def test_deep(self):
        deep = A
        for _ in range(3000):
            deep = ("two", "-", B, deep)
        self.assertEqual(show_expression(deep).count("("), 2999)


if __name__ == "__main__":
    unittest.main()
