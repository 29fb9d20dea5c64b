import random
import unittest

from helper import TAKEN, call_twice, core, core_tree, data, measured
from measuretext import terms
from model import SHAPES, core_of, many_terms

FORM_WORDS = "fn rec let if pair fst snd cons case fold floor rest root".split()
FORM_SIGNS = "+ - * / ^ < =".split()
# One term of each form, token by token.
FORMS = (
    "x", "-3/4", "5[km]", "true", "false", "nil", "( fn x a )", "( rec f x a )", "( let x a b )", "( if c a b )",
    "( a b )", "( pair a b )", "( fst a )", "( snd a )", "( cons a b )", "( case l a h t b )", "( fold f z l )",
    "( + a b )", "( - a b )", "( * a b )", "( / a b )", "( < a b )", "( = a b )", "( floor a b )", "( rest a b )",
    "( root a )", "( ^ a 2 )", "( ^ a -9 )",
)


class Cases(unittest.TestCase):
    def hold(self, cases):
        for text, found in cases.items():
            self.assertEqual(core(text), found, text)


class Examples(Cases):
    def test_of_the_document(self):
        self.hold({
            "(+ 1 02.50)": "(+ 1 5/2)",
            "(+ 1": [6, 4],
            "(a)": [6, 2],
            "a b": [6, 2],
        })

    def test_the_answer_is_zero_and_the_bytes(self):
        self.assertEqual(terms.core(data("(+a 01)")), [0, 40, 43, 32, 97, 32, 49, 41])


class Forms(Cases):
    def test_each_form_with_one_blank_and_many(self):
        for spelled in FORMS:
            shown = spelled.replace("( ", "(").replace(" )", ")")
            self.assertEqual(core(shown), shown)
            self.assertEqual(core(spelled), shown)
            self.assertEqual(core("  " + spelled.replace(" ", "     ") + "   "), shown)

    def test_no_blanks(self):
        self.hold({
            "(fn x(fn y(x y)))": "(fn x (fn y (x y)))",
            "(+1 2)": "(+ 1 2)",
            "(+(a b)(c d))": "(+ (a b) (c d))",
            "((f a)b)": "((f a) b)",
            "(1a)": "(1 a)",
            "(^a-2)": "(^ a -2)",
            "(^(f x)2)": "(^ (f x) 2)",
            "(<a(=b c))": "(< a (= b c))",
            "(*1[m]2[s])": "(* 1[m] 2[s])",
            "(/3/4 5)": "(/ 3/4 5)",
            "(fnx a)": "(fnx a)",
            "(fn1 a)": "(fn1 a)",
            "(a1)": [6, 3],
            "(fst(snd(root 4)))": "(fst (snd (root 4)))",
            "(case(f l)1h t(g h))": "(case (f l) 1 h t (g h))",
        })

    def test_within_one_another(self):
        self.hold({
            "(let f (rec f n (if (= n 0) 1 (* n (f (- n 1))))) (f 5))":
                "(let f (rec f n (if (= n 0) 1 (* n (f (- n 1))))) (f 5))",
            "(rec x x (case x x x x x))": "(rec x x (case x x x x x))",
            "(fold (fn x x) (pair nil true) (cons 1 nil))": "(fold (fn x x) (pair nil true) (cons 1 nil))",
        })

    def test_applications(self):
        self.hold({
            "((fn x x) y)": "((fn x x) y)",
            "(((f a) b) c)": "(((f a) b) c)",
            "(1 2)": "(1 2)",
            "(-1 2)": "(-1 2)",
            "(true false)": "(true false)",
            "(nil nil)": "(nil nil)",
            "(5[m] x)": "(5[m] x)",
            "(ifs a)": "(ifs a)",
            "(a b c)": [6, 5],
            "(a b": [6, 4],
        })

    def test_terms_made_up(self):
        source = random.Random(1)
        for term in many_terms(600, seed=1):
            shown = core_of(term)
            self.assertEqual(core(shown), shown)
            spelled = shown.replace("(", " ( ").replace(")", " ) ").split()
            blanks = [" " * source.randrange(1, 3) for token in spelled]
            wide = "".join(blank + token for blank, token in zip(blanks, spelled))
            self.assertEqual(core(wide), shown)
            self.assertEqual(core(shown.replace(" (", "(").replace(") ", ")")), shown)


class Minus(Cases):
    def test_before_a_digit_and_elsewhere(self):
        self.hold({
            "(- 1 2)": "(- 1 2)",
            "(-1 2)": "(-1 2)",
            "(- -1 2)": "(- -1 2)",
            "(--1 2)": "(- -1 2)",
            "(--1-2)": "(- -1 -2)",
            "(+ 1-2)": "(+ 1 -2)",
            "(+ a-2)": "(+ a -2)",
            "(-a 1)": "(- a 1)",
            "(-(f x)1)": "(- (f x) 1)",
            "(f-1)": "(f -1)",
            "(+ 1 - 2)": [6, 5],
            "(+ - 1 2)": [6, 3],
            "- 1": [6, 0],
            "-": [6, 0],
            "--1": [6, 0],
            "-a": [6, 0],
            "-1-2": [6, 2],
            "(-1)": [6, 3],
            "(- 1)": [6, 4],
            "1-": [6, 1],
        })

    def test_numbers_below_zero(self):
        self.hold({
            "-3": "-3",
            "-0": "0",
            "-00.0": "0",
            "-0[m]": "0[m]",
            "-0/7[km]": "0[km]",
            "-2/4": "-1/2",
            "-1.50[m]": "-3/2[m]",
            "-999999999999": "-999999999999",
        })


class Numbers(Cases):
    def test_any_good_spelling(self):
        self.hold({
            "007": "7",
            "0.50": "1/2",
            "6/3": "2",
            "0/9": "0",
            "10/4": "5/2",
            "1.000000000000": "1",
            "123456789012.5": "246913578025/2",
            "05.0[m.s^-1]": "5[m.s^-1]",
            "2/4[1]": "1/2[1]",
            "1[let^02/m]": "1[let^02/m]",
            "(1/2/3)": [6, 4],
            "(/ 1/2/3)": [6, 6],
            "(/1/2 3)": "(/ 1/2 3)",
            "(1/-2)": [6, 2],
            "3/x": [6, 1],
            "5 [m]": [1, 2],
        })


class Exponents(Cases):
    def test_from_minus_nine_to_nine(self):
        for number in range(-9, 10):
            self.assertEqual(core(f"(^ a {number})"), f"(^ a {number})")
            self.assertEqual(core(f"(^(a b){number})"), f"(^ (a b) {number})")
        self.assertEqual(core("(^ a -0)"), "(^ a 0)")

    def test_what_is_none(self):
        for text in ("10", "02", "-10", "-02", "2.0", "2/1", "2[m]", "-2[m]", "x", "(2)", "- 2", "+2", "true", "nil",
                     ")", "(^ a 2)", "^ 2"):
            self.assertEqual(core("(^ a " + text + ")"), [6, 5], text)
        self.assertEqual(core("(^ a"), [6, 4])
        self.assertEqual(core("(^ a 2"), [6, 6])
        self.assertEqual(core("(^ a 2 3)"), [6, 7])
        self.assertEqual(core("(^ 2)"), [6, 4])
        self.assertEqual(core("(^ 2 a)"), [6, 5])

    def test_it_is_no_part(self):
        deep = "(^ " * 39 + "a" + " 2)" * 39
        self.assertEqual(core(deep), deep)


class TakenWords(Cases):
    def test_in_the_place_of_names(self):
        for word in TAKEN:
            for lead, rest in (("(fn ", " a)"), ("(rec ", " x a)"), ("(rec f ", " a)"), ("(let ", " a b)"),
                               ("(case l a ", " t b)"), ("(case l a h ", " b)")):
                self.assertEqual(core(lead + word + rest), [6, len(lead)], lead + word)

    def test_in_the_place_of_terms(self):
        for word in TAKEN:
            good = word in ("true", "false", "nil")
            self.assertEqual(core(word), word if good else [6, 0])
            self.assertEqual(core("(f " + word + ")"), "(f " + word + ")" if good else [6, 3])
            if word not in FORM_WORDS:
                self.assertEqual(core("(" + word + " a)"), "(" + word + " a)" if good else [6, 1])

    def test_signs_in_the_place_of_terms_and_names(self):
        for sign in FORM_SIGNS + [")"]:
            self.assertEqual(core(sign), [6, 0], sign)
            self.assertEqual(core("(f " + sign + " a)"), [6, 3], sign)
            self.assertEqual(core("(fn " + sign + " a)"), [6, 4], sign)
            self.assertEqual(core("(+ " + sign + " a)"), [6, 3], sign)

    def test_names_are_no_brackets_and_numbers(self):
        for text in ("1", "-1", "(x)", "(fn", "1[m]"):
            self.assertEqual(core("(fn " + text + " a)"), [6, 4], text)


class TokenFaults(Cases):
    def test_each_byte_alone(self):
        for byte in range(256):
            if byte == 32:
                found = [6, 1]
            elif byte in data("()+-*/^<="):
                found = [6, 1] if byte == 40 else [6, 0]
            elif 48 <= byte <= 57 or 97 <= byte <= 122:
                found = [0, byte]
            else:
                found = [1, 0]
            self.assertEqual(terms.core([byte]), found, byte)
            if found[0] == 1:
                self.assertEqual(terms.core(data("(f x)") + [byte]), [1, 5], byte)
                self.assertEqual(terms.core(data(") x ") + [byte]), [1, 4], byte)

    def test_what_parts_surface_tokens_alone(self):
        self.hold({
            "(f\nx)": [1, 2],
            "x\n": [1, 1],
            "{a} x": [1, 0],
            "(f {note} x)": [1, 3],
            "(f\tx)": [1, 2],
            "(> a b)": [1, 1],
            "(<= a b)": [6, 2],
            "(a, b)": [1, 2],
            "[]": [1, 0],
            "(:: a b)": [1, 1],
            "a|b": [1, 1],
        })

    def test_words_of_more_than_12_signs(self):
        self.hold({
            "abcdefghijkl": "abcdefghijkl",
            "abcdefghijklm": [3, 0],
            "(f a23456789_12)": "(f a23456789_12)",
            "(f a23456789_123)": [3, 3],
            "(abcdefghijklm": [3, 1],
            "1[abcdefghijklm]": [5, 1],
        })

    def test_numbers_that_are_not_good(self):
        self.hold({
            "1/0": [4, 0],
            "-1/0": [4, 0],
            "(+ 1 -1/0)": [4, 5],
            "(+ 1-1/0)": [4, 4],
            "(--1000000000000": [4, 2],
            "(- 1000000000000": [4, 3],
            "0.000000000001": [4, 0],
            "-0.000000000001": [4, 0],
            "0000000000001": [4, 0],
            "1/0000000000001": [4, 0],
            "999999999999.5": [4, 0],
            "-999999999999.5": [4, 0],
            "1/0[": [4, 0],
            "-1/00[m]": [4, 0],
        })

    def test_measures(self):
        self.hold({
            "5[m": [5, 1],
            "-5[m": [5, 2],
            "5[": [5, 1],
            "5[]": [5, 1],
            "5[m..s]": [5, 1],
            "-12[m s]": [5, 3],
            "(f 1.5[M])": [5, 6],
            "5[m^123]": [5, 1],
            "x[m]": [1, 1],
        })

    def test_the_first_is_told(self):
        self.hold({
            "? abcdefghijklm 1/0 5[": [1, 0],
            "abcdefghijklm ? 1/0 5[": [3, 0],
            "1/0 ? abcdefghijklm 5[": [4, 0],
            "5[ ? abcdefghijklm 1/0": [5, 1],
            "5[m] ? abcdefghijklm 1/0": [1, 5],
            ") ) ?": [1, 4],
            ") abcdefghijklm": [3, 2],
            ") -1/0": [4, 2],
            ") -1[": [5, 4],
            "(" * 50 + "?": [1, 50],
            core_tree(151) + "?": [1, len(core_tree(151))],
        })


class Faults6(Cases):
    def test_the_end_of_the_text(self):
        for spelled in FORMS:
            tokens = spelled.split()
            for count in range(len(tokens)):
                text = " ".join(tokens[:count])
                self.assertEqual(core(text), [6, len(text)], text)
                self.assertEqual(core(text + "   "), [6, len(text) + 3], text)

    def test_a_bracket_too_early_and_behind_the_end(self):
        for spelled in FORMS:
            tokens = spelled.split()
            for count in range(len(tokens)):
                text = " ".join(tokens[:count] + [""]) if count else ""
                if tokens[count] != ")":
                    self.assertEqual(core(text + ")"), [6, len(text)], text)
            for further in (")", "(", "x", "1", "+", "fn", "-1"):
                self.assertEqual(core(spelled + " " + further), [6, len(spelled) + 1], spelled)

    def test_a_part_too_many(self):
        for spelled in FORMS[6:]:
            self.assertEqual(core(spelled[:-1] + "x )"), [6, len(spelled) - 1], spelled)

    def test_empty_brackets(self):
        self.hold({"()": [6, 1], "( )": [6, 2], "(": [6, 1], "(()": [6, 2], "((a b": [6, 5], "(fn)": [6, 3]})

    def test_no_tokens(self):
        self.hold({"": [6, 0], " ": [6, 1], "     ": [6, 5]})


class Faults8(Cases):
    def test_depth_40_and_41(self):
        for spelled in FORMS[6:]:
            tokens = spelled.split()
            shape = SHAPES[tokens[1] if tokens[1] in SHAPES else "apply"]
            first = len(tokens) - 1 - len(shape)
            for number, sign in enumerate(shape):
                if sign not in "pb":
                    continue
                lead = " ".join(tokens[:first + number]) + " "
                rest = " " + " ".join(tokens[first + number + 1:])
                shown = (lead * 39 + "x" + rest * 39).replace("( ", "(").replace(" )", ")")
                self.assertEqual(core(lead * 39 + "x" + rest * 39), shown, spelled)
                # The first part of the form, that is the one that stands too deep first.
                ahead = min(at for at, other in enumerate(shape) if other in "pb")
                place = len(lead) * 39 + len(" ".join(tokens[:first + ahead])) + 1
                self.assertEqual(core(lead * 40 + "x" + rest * 40), [8, place], spelled)

    def test_ahead_of_the_look_at_the_token(self):
        lead = "(f " * 39
        for token in ("x", "1", "(", ")", "+", "fn", "fun", "-", "(a"):
            self.assertEqual(core("(f " * 40 + token), [8, 118], token)
            self.assertEqual(core(lead + "(fn x  " + token), [8, 124], token)
            self.assertEqual(core(lead + "(+" + token), [8, 119], token)
        self.assertEqual(core(lead + "(+"), [8, 119])
        self.assertEqual(core(lead + "(+   "), [8, 122])
        self.assertEqual(core(lead + "(fn x"), [8, 122])

    def test_behind_a_bracket_at_depth_40(self):
        lead = "(f " * 39
        for token in ("x", "1", "(", ")", "fun", "and", "nil", "true"):
            self.assertEqual(core(lead + "(" + token), [8, 118], token)
            self.assertEqual(core(lead + "(  " + token), [8, 120], token)
        self.assertEqual(core(lead + "("), [8, 118])
        self.assertEqual(core(lead + "(  "), [8, 120])
        for word in FORM_WORDS + FORM_SIGNS:
            text = lead + "( " + word
            kind = 6 if SHAPES[word][0] == "n" else 8
            self.assertEqual(core(text), [kind, len(text)], word)
            self.assertEqual(core(text + "  )"), [kind, len(text) + 2], word)

    def test_names_and_exponents_stand_at_no_depth(self):
        lead = "(f " * 39
        self.assertEqual(core(lead + "(fn 1"), [6, 121])
        self.assertEqual(core(lead + "(fn"), [6, 120])
        self.assertEqual(core(lead + "(rec f"), [6, 123])
        self.assertEqual(core("(f " * 38 + "(^ a 10"), [6, 119])

    def test_terms_that_have_ended_do_not_count(self):
        row = "(pair (f x) " * 38 + "(f x)" + ")" * 38
        self.assertEqual(core(row), row)


class Faults9(Cases):
    def test_300_and_301_nodes(self):
        self.assertEqual(core(core_tree(150))[:4], "(+ (")
        whole = core_tree(151)
        self.assertEqual(core(whole), [9, whole.rindex("x")])
        self.assertEqual(core("(fst" + core_tree(150) + ")")[:6], "(fst (")
        self.assertEqual(core("(^" + core_tree(150) + "2)")[:4], "(^ (")
        self.assertEqual(core("(fst(fst " + core_tree(150) + "))"), [9, 9 + core_tree(150).rindex("x")])

    def test_the_place_of_node_300(self):
        whole = core_tree(150)
        self.assertEqual(core("(pair " + whole + "  -12)"), [9, len(whole) + 8])
        self.assertEqual(core("(pair " + whole + "(f x))"), [9, len(whole) + 6])
        self.assertEqual(core("(fn x(pair " + core_tree(149) + "(f x)))"), [9, 12 + len(core_tree(149))])
        self.assertEqual(core("(fold " + whole + core_tree(20) + core_tree(30) + ")"), [9, 6 + len(whole)])

    def test_which_of_6_8_and_9(self):
        whole = core_tree(151)
        self.assertEqual(core(whole + ")"), [6, len(whole)])
        self.assertEqual(core(whole[:-1]), [6, len(whole) - 1])
        deep = "(f " * 40
        self.assertEqual(core("(pair" + whole + deep), [8, 5 + len(whole) + 115])
        self.assertEqual(core("(pair " + deep + ")" + whole), [8, 6 + 115])
        self.assertEqual(core("(fn 1" + deep), [6, 4])
        self.assertEqual(core("a " + deep), [6, 2])


class LongAnswers(Cases):
    def test_two_thousand_bytes_and_one_more(self):
        for growth in (0, 1, 2):
            number = measured(1994 + growth)
            text, shown = "(+" + number + "a)", "(+ " + number + " a)"
            self.assertEqual(len(shown), 2000 + growth)
            self.assertEqual(core(text), shown if growth == 0 else [-4])

    def test_numbers_grow(self):
        self.assertEqual(core("(+a 0.01)"), "(+ a 1/100)")
        shown = "(* 1/100 " + measured(1990) + ")"
        self.assertEqual(len(shown), 2000)
        self.assertEqual(core("(*0.01 " + measured(1990) + ")"), shown)
        self.assertEqual(core("(*0.01 " + measured(1991) + ")"), [-4])
        self.assertEqual(core("(*.01 " + measured(1991) + ")"), [1, 2])

    def test_faults_come_before_it(self):
        self.assertEqual(core("(+" + measured(1996) + "a"), [6, 1999])
        self.assertEqual(core("(*0.01 " + measured(1991) + ")" + ")"), [6, 1999])


class LongTexts(Cases):
    def test_two_thousand_bytes_and_one_more(self):
        self.assertEqual(core("x" + " " * 1999), "x")
        self.assertEqual(core("x" + " " * 2000), [-1])
        self.assertEqual(core(measured(2000)), measured(2000))
        self.assertEqual(core(measured(2001)), [-1])
        self.assertEqual(core("?" * 2000), [1, 0])
        self.assertEqual(core("?" * 2001), [-1])
        self.assertEqual(core(" " * 10000), [-1])

    def test_long_rows(self):
        self.assertEqual(core("(" * 2000), [8, 40])
        self.assertEqual(core("( " * 1000), [8, 80])
        self.assertEqual(core("(" * 40), [8, 40])
        self.assertEqual(core("(" * 39), [6, 39])
        self.assertEqual(core(")" * 2000), [6, 0])
        self.assertEqual(core(" " * 2000), [6, 2000])
        self.assertEqual(core("-" * 2000), [6, 0])
        self.assertEqual(core("a " * 1000), [6, 2])
        self.assertEqual(core("(fst " * 400), [8, 200])
        self.assertEqual(core("1" * 2000), [4, 0])
        self.assertEqual(core("a" * 2000), [3, 0])


class Calls(unittest.TestCase):
    def test_what_is_handed_in_stays_and_nothing_is_kept(self):
        for text in ("(let x 5[m] x)", "(+ 1", "", "?", "(" * 50, core_tree(151), " " * 2001, "(+a" + measured(1996)):
            call_twice(self, terms.core, data(text))


if __name__ == "__main__":
    unittest.main()
