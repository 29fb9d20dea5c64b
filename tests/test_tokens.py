import unittest

from helper import TAKEN, call_twice, data, tokens
from measuretext import terms


class Empty(unittest.TestCase):
    def test_texts_without_tokens(self):
        for text in ("", " ", "\n", " \n \n", "{}", "{a comment}", " {a}\n{b} "):
            self.assertEqual(terms.tokens(data(text)), [0], text)


class Signs(unittest.TestCase):
    def test_each_sign_alone(self):
        for sign in "| < > = + - * / ^ ( ) [ ] , -> :: <= >= <>".split():
            self.assertEqual(tokens(sign), [(2, 0, len(sign))], sign)

    def test_two_byte_signs_win_where_they_stand(self):
        cases = {
            "-->": [(2, 0, 1), (2, 1, 2)],
            "->>": [(2, 0, 2), (2, 2, 1)],
            "::::": [(2, 0, 2), (2, 2, 2)],
            "<=>": [(2, 0, 2), (2, 2, 1)],
            "<>=": [(2, 0, 2), (2, 2, 1)],
            "<<=": [(2, 0, 1), (2, 1, 2)],
            ">=>": [(2, 0, 2), (2, 2, 1)],
            "=>": [(2, 0, 1), (2, 1, 1)],
            "<-": [(2, 0, 1), (2, 1, 1)],
            "><": [(2, 0, 1), (2, 1, 1)],
            "=<": [(2, 0, 1), (2, 1, 1)],
            "==": [(2, 0, 1), (2, 1, 1)],
            "||": [(2, 0, 1), (2, 1, 1)],
        }
        for text, found in cases.items():
            self.assertEqual(tokens(text), found, text)

    def test_their_first_bytes_parted_from_the_second(self):
        for text in ("- >", "< =", "> =", "< >", "-\n>", "<{}="):
            self.assertEqual([sort for sort, place, length in tokens(text)], [2, 2], text)
        self.assertEqual(tokens("- >"), [(2, 0, 1), (2, 2, 1)])

    def test_one_colon_begins_no_token(self):
        self.assertEqual(tokens(":"), [1, 0])
        self.assertEqual(tokens(": :"), [1, 0])
        self.assertEqual(tokens(":::"), [1, 2])
        self.assertEqual(tokens("a:b"), [1, 1])


class Words(unittest.TestCase):
    def test_words(self):
        self.assertEqual(tokens("a"), [(0, 0, 1)])
        self.assertEqual(tokens("a_1b2_"), [(0, 0, 6)])
        self.assertEqual(tokens(" ab  cd"), [(0, 1, 2), (0, 5, 2)])
        self.assertEqual(tokens("a1 2a"), [(0, 0, 2), (1, 3, 1), (0, 4, 1)])
        self.assertEqual(tokens("az{}z0"), [(0, 0, 2), (0, 4, 2)])

    def test_taken_words_are_words(self):
        for word in TAKEN:
            self.assertEqual(tokens(word), [(0, 0, len(word))], word)

    def test_twelve_and_thirteen_signs(self):
        for word in ("abcdefghijkl", "a23456789012", "a___________"):
            self.assertEqual(tokens(word), [(0, 0, 12)], word)
            self.assertEqual(tokens(word + "m"), [3, 0], word)
            self.assertEqual(tokens("x " + word + "1"), [3, 2], word)
        self.assertEqual(tokens("a" * 12 + " " + "b" * 12), [(0, 0, 12), (0, 13, 12)])
        self.assertEqual(tokens("a" * 2000), [3, 0])


class Numbers(unittest.TestCase):
    def test_as_far_as_they_go(self):
        cases = {
            "0": [(1, 0, 1)],
            "007": [(1, 0, 3)],
            "3/4": [(1, 0, 3)],
            "0.50": [(1, 0, 4)],
            "3/x": [(1, 0, 1), (2, 1, 1), (0, 2, 1)],
            "3/": [(1, 0, 1), (2, 1, 1)],
            "3 /4": [(1, 0, 1), (2, 2, 1), (1, 3, 1)],
            "3/ 4": [(1, 0, 1), (2, 1, 1), (1, 3, 1)],
            "1/2/3": [(1, 0, 3), (2, 3, 1), (1, 4, 1)],
            "1/2/3/4": [(1, 0, 3), (2, 3, 1), (1, 4, 3)],
            "1.5/2": [(1, 0, 3), (2, 3, 1), (1, 4, 1)],
            "12abc": [(1, 0, 2), (0, 2, 3)],
            "-3": [(2, 0, 1), (1, 1, 1)],
            "1/-2": [(1, 0, 1), (2, 1, 1), (2, 2, 1), (1, 3, 1)],
        }
        for text, found in cases.items():
            self.assertEqual(tokens(text), found, text)

    def test_a_point_that_belongs_to_no_number(self):
        self.assertEqual(tokens("1.5.2"), [1, 3])
        self.assertEqual(tokens("1/2.5"), [1, 3])
        self.assertEqual(tokens("1."), [1, 1])
        self.assertEqual(tokens("1.x"), [1, 1])
        self.assertEqual(tokens("1. 5"), [1, 1])
        self.assertEqual(tokens(".5"), [1, 0])
        self.assertEqual(tokens("a.b"), [1, 1])

    def test_twelve_and_thirteen_digits(self):
        for good in ("999999999999", "000000000001", "1/999999999999", "000000000001/000000000002",
                     "1.000000000000", "000000000000.500000000000"):
            self.assertEqual(tokens(good), [(1, 0, len(good))], good)
        for bad in ("1000000000000", "0000000000001", "1/0000000000002", "0000000000002/2",
                    "1.0000000000000", "0.5000000000000", "0000000000000.5"):
            self.assertEqual(tokens(bad), [4, 0], bad)
            self.assertEqual(tokens("x+" + bad), [4, 2], bad)
        self.assertEqual(tokens("1" * 2000), [4, 0])

    def test_a_denominator_of_zeros(self):
        for bad in ("1/0", "0/0", "5/000"):
            self.assertEqual(tokens(bad), [4, 0], bad)
        self.assertEqual(tokens("0/5"), [(1, 0, 3)])
        self.assertEqual(tokens("5.000"), [(1, 0, 5)])
        self.assertEqual(tokens("1/0x"), [4, 0])

    def test_lowest_terms_within_twelve_digits(self):
        for good in ("0.000000000002", "0.000000000000", "123456789012.5", "499999999999.5", "0.00000000001",
                     "999999999999/999999999998", "999999999999.000000000000"):
            self.assertEqual(tokens(good), [(1, 0, len(good))], good)
        for bad in ("0.000000000001", "999999999999.5", "500000000000.5", "123456789012.123456789012",
                    "0.000000000003"):
            self.assertEqual(tokens(bad), [4, 0], bad)


class Measures(unittest.TestCase):
    def test_measure_texts(self):
        for measure in ("m", "1", "km", "m.s", "m/s", "m.s^-1", "m^2", "m^-2", "m^12", "m^-12", "m^0", "m^00",
                        "1/s", "1.1/1", "let", "fun^2", "a_b2^3", "abcdefghijkl", "abcdefghijkl^-99/m",
                        ".".join(["m"] * 900)):
            text = "5[" + measure + "]"
            self.assertEqual(tokens(text), [(1, 0, len(text))], measure)

    def test_no_measure_texts(self):
        for measure in ("", " ", "m ", " m", "m s", "m..s", ".m", "m.", "m/", "/m", "m./s", "2", "11", "1^2", "m^",
                        "m^-", "m^--1", "m^123", "m^-123", "m^+1", "m^1^2", "m^x", "^2", "-m", "M", "m^2x", "_m",
                        "abcdefghijklm", "abcdefghijklm^2", "m.abcdefghijklm", "[m", "{}", "m{}", "m\n", "(m)",
                        "m*s", "?", "%", "m%", "\x00", "\xff", "m\x7f", "1m", "m^1.", "m,s"):
            self.assertEqual(tokens("5[" + measure + "]"), [5, 1], measure)
            self.assertEqual(tokens("x 1.5[" + measure + "] y"), [5, 5], measure)

    def test_without_their_end(self):
        for text in ("5[", "5[m", "5[m.s^-1", "5[m {]"[:4], "5[[[", "5[ " * 3):
            self.assertEqual(tokens(text), [5, 1], text)
        self.assertEqual(tokens("5[m\n8[s]"), [5, 1])

    def test_which_numbers_have_one(self):
        self.assertEqual(tokens("5 [m]"), [(1, 0, 1), (2, 2, 1), (0, 3, 1), (2, 4, 1)])
        self.assertEqual(tokens("x[m]"), [(0, 0, 1), (2, 1, 1), (0, 2, 1), (2, 3, 1)])
        self.assertEqual(tokens("3/4[m]"), [(1, 0, 6)])
        self.assertEqual(tokens("5{}[m]"), [(1, 0, 1), (2, 3, 1), (0, 4, 1), (2, 5, 1)])
        self.assertEqual(tokens("5[m][s]"), [(1, 0, 4), (2, 4, 1), (0, 5, 1), (2, 6, 1)])
        self.assertEqual(tokens("5[m]]"), [(1, 0, 4), (2, 4, 1)])
        self.assertEqual(tokens("5[m]6[s]"), [(1, 0, 4), (1, 4, 4)])
        self.assertEqual(tokens("[5[m]]"), [(2, 0, 1), (1, 1, 4), (2, 5, 1)])


class Comments(unittest.TestCase):
    def test_comments_part_tokens(self):
        self.assertEqual(tokens("a{b}c"), [(0, 0, 1), (0, 4, 1)])
        self.assertEqual(tokens("-{}>"), [(2, 0, 1), (2, 3, 1)])
        self.assertEqual(tokens("{ \n~!A%\x7d x"), [(0, 9, 1)])

    def test_they_do_not_stand_in_one_another(self):
        self.assertEqual(tokens("{a{b}"), [])
        self.assertEqual(tokens("{a{b}x"), [(0, 5, 1)])
        self.assertEqual(tokens("{a{b}}"), [1, 5])

    def test_unended(self):
        self.assertEqual(tokens("{"), [2, 0])
        self.assertEqual(tokens("x {note"), [2, 2])
        self.assertEqual(tokens("{a} {b\n{c"), [2, 4])
        self.assertEqual(tokens("{" + "a" * 1999), [2, 0])

    def test_bytes_that_may_not_stand_there(self):
        for byte in (0, 9, 11, 13, 31, 127, 128, 255):
            self.assertEqual(terms.tokens([120, 123, 97, byte, 125]), [1, 3], byte)
            self.assertEqual(terms.tokens([120, 123, 97, byte]), [1, 3], byte)
        for byte in (10, 32, 37, 123, 126):
            self.assertEqual(terms.tokens([123, byte, 125]), [0], byte)


class FaultsOfTokens(unittest.TestCase):
    def test_each_byte_alone(self):
        signs = data("|<>=+-*/^()[],")
        for byte in range(256):
            if byte in (10, 32):
                found = [0]
            elif byte in signs:
                found = [0, 2, 0, 1]
            elif 48 <= byte <= 57:
                found = [0, 1, 0, 1]
            elif 97 <= byte <= 122:
                found = [0, 0, 0, 1]
            else:
                found = [2, 0] if byte == 123 else [1, 0]
            self.assertEqual(terms.tokens([byte]), found, byte)

    def test_the_first_is_told(self):
        cases = {
            "? {": [1, 0],
            "{ ?": [2, 0],
            "abcdefghijklm?": [3, 0],
            "?abcdefghijklm": [1, 0],
            "1/0[": [4, 0],
            "1/0[]": [4, 0],
            "5[} 1/0": [5, 1],
            "1/0 5[}": [4, 0],
            "5[m} ?": [5, 1],
            "? 5[m": [1, 0],
            "{a\t": [1, 2],
            "x.{": [1, 1],
            "aA": [1, 1],
        }
        for text, found in cases.items():
            self.assertEqual(tokens(text), found, text)

    def test_faults_of_the_form_are_not_told(self):
        for text in (")", "a < b < c", "fun", "1 +", "x ^ 10", "(" * 50):
            self.assertEqual(terms.tokens(data(text))[0], 0, text)


class Lengths(unittest.TestCase):
    def test_two_thousand_bytes_and_one_more(self):
        self.assertEqual(len(tokens("(" * 2000)), 2000)
        self.assertEqual(tokens("(" * 2001), [-1])
        self.assertEqual(tokens(" " * 2000), [])
        self.assertEqual(tokens(" " * 2001), [-1])
        self.assertEqual(tokens("?" * 2000), [1, 0])
        self.assertEqual(tokens("?" * 2001), [-1])
        self.assertEqual(tokens("?" * 10000), [-1])


class Calls(unittest.TestCase):
    def test_what_is_handed_in_stays_and_nothing_is_kept(self):
        for text in ("let x = 5[m] in x", "5[", "", "a" * 13, "?", "{", " " * 2001):
            call_twice(self, terms.tokens, data(text))


if __name__ == "__main__":
    unittest.main()
