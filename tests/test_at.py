import unittest

from derivation import many_derivations
from helper import SURFACE_FAULTS, at, call_twice, data, measured, read, tree
from measuretext import terms


class Places(unittest.TestCase):
    def hold(self, text, row):
        """The row tells the node of each place by a digit, and by a . that there is none."""
        self.assertEqual(len(text), len(row))
        for place, sign in enumerate(row):
            self.assertEqual(at(place, text), [-2] if sign == "." else [0, int(sign, 36)], (text, place))
        self.assertEqual(at(len(text), text), [-2])
        self.assertEqual(at(-1, text), [-2])


class Example(Places):
    def test_of_the_document(self):
        self.hold("f (x) <= [1]",
                  "655750000232")


class Shortest(Places):
    def test_one_use_of_a_rule_that_makes_several_nodes(self):
        self.hold("fun x y -> x",
                  "000000000002")
        self.hold("let rec f x y = x in f",
                  "0000000000000000300004")
        self.hold("[a, b]",
                  "010030")
        self.hold("(a, b, c)",
                  "010030040")
        self.hold("a or b",
                  "100003")
        self.hold("not a",
                  "00001")
        self.hold("a <> b",
                  "200003")

    def test_the_least_number_of_those_equally_short(self):
        self.hold("x :: [ ]",
                  "10000222")
        self.hold("f [a]",
                  "10232")
        self.hold("f (not a)",
                  "100222230")
        self.hold("f (a <= b)",
                  "1005222240")

    def test_turned_parts(self):
        self.hold("a > b",
                  "20001")
        self.hold("(a) <= b",
                  "03000002")
        self.hold("a >= b",
                  "200003")

    def test_rounds(self):
        self.hold("a - b + c",
                  "211130004")
        self.hold("f x y",
                  "21304")
        self.hold("(a) ^ 2 ^ 3",
                  "12111110000")
        self.hold("a + b * c",
                  "100032224")


class Between(Places):
    def test_blanks_and_comments(self):
        self.hold("a {c} + b",
                  "100000002")
        self.hold("f (a + {c} b)",
                  "1003222222240")
        self.hold("- {c} 3",
                  "0000000")

    def test_ahead_and_behind(self):
        self.hold(" {c}\nx {d} ",
                  ".....0.....")
        self.hold("(x)",
                  ".0.")
        self.hold(" ((a + b)) ",
                  "...10002...")
        self.hold("((a, b))",
                  ".010020.")

    def test_the_words_and_signs_of_a_rule(self):
        self.hold("if a then b else c",
                  "000100000020000003")
        self.hold("match l with [] -> a | h :: t -> b",
                  "0000001000000000000200000000000003")
        self.hold("let x = 5[m] in x",
                  "00000000111100002")
        self.hold("fold f z l",
                  "0000010203")
        self.hold("a ^ -2",
                  "100000")


class Numbers(unittest.TestCase):
    def test_beyond_the_text(self):
        for text in ("x", "a + b", " x", "x ", tree(150)):
            for place in (-1, -2, len(text), len(text) + 1, 10 ** 18, -10 ** 18, 10 ** 18 - 1, 2 ** 31, -2 ** 31,
                          -len(text)):
                self.assertEqual(at(place, text), [-2], (place, text))
        self.assertEqual(at(0, "x"), [0, 0])
        self.assertEqual(at(4, "a + b"), [0, 2])
        self.assertEqual(at(1, " x"), [0, 0])

    def test_300_nodes(self):
        text = "fst (x + " + tree(149) + ")"
        self.assertEqual(at(text.rindex("x"), text), [0, 299])
        self.assertEqual(at(0, text), [0, 0])

    def test_faults_come_first(self):
        for text, found in SURFACE_FAULTS.items():
            for place in (0, 1, -1, len(text), 10 ** 18, -10 ** 18):
                self.assertEqual(at(place, text), found, text)

    def test_texts_of_two_thousand_bytes_and_one_more(self):
        text = " " * 1999 + "x"
        self.assertEqual(at(1999, text), [0, 0])
        self.assertEqual(at(1998, text), [-2])
        self.assertEqual(at(2000, text), [-2])
        self.assertEqual(at(1999, text + " "), [-1])
        self.assertEqual(at(-1, text + " "), [-1])
        self.assertEqual(at(1999, measured(2000)), [0, 0])
        self.assertEqual(at(0, "?" * 2000), [1, 0])
        self.assertEqual(at(0, "?" * 2001), [-1])
        self.assertEqual(at(10 ** 18, "(" * 10000), [-1])

    def test_a_long_core_text_is_no_matter(self):
        text = "not " * 39 + measured(1800)
        self.assertEqual(read(text), [-4])
        self.assertEqual(at(155, text), [0, 38])
        self.assertEqual(at(156, text), [0, 39])


class Derived(unittest.TestCase):
    def test_texts_made_by_the_rules(self):
        met = {}
        for derivation in many_derivations(500):
            text = derivation.text
            answer = derivation.fault()
            if answer is not None:
                self.assertEqual(at(0, text), answer, text)
                self.assertEqual(at(len(text), text), answer, text)
            else:
                self.look_through(text, derivation.stretches())
                answer = [0]
            met[answer[0]] = met.get(answer[0], 0) + 1
        self.assertGreater(met[0], 250)

    def look_through(self, text, found):
        # All places of short texts, some of long ones.
        for place in range(0, len(text), 1 + len(text) // 20):
            holding = [(length, number) for number, (begin, length, depth) in enumerate(found)
                       if begin <= place < begin + length]
            self.assertEqual(at(place, text), [0, min(holding)[1]] if holding else [-2], (place, text))


class Calls(unittest.TestCase):
    def test_what_is_handed_in_stays_and_nothing_is_kept(self):
        for text in ("let x = (5[m]) in (x)", "x", " " * 2001, *SURFACE_FAULTS):
            for place in (0, 4, 9, -1, 10 ** 18):
                call_twice(self, terms.at, place, data(text))


if __name__ == "__main__":
    unittest.main()
