import random
import unittest

from helper import CORE_FAULTS, alike, call_twice, core_tree, data, measured, plain
from measuretext import terms
from model import changed, core_of, many_terms, nameless, renamed


class Pairs(unittest.TestCase):
    def hold(self, answer, pairs):
        for first, second in pairs:
            self.assertEqual(alike(first, second), [0, answer], (first, second))
            self.assertEqual(alike(second, first), [0, answer], (second, first))


class Alike(Pairs):
    def test_the_same(self):
        self.hold(1, [(text, text) for text in (
            "x", "v0", "true", "nil", "-3/4[m]", "(fn x x)", "(f x)", "(^ a 2)", "(case l a h t b)", core_tree(150),
        )])

    def test_bound_names_alone(self):
        self.hold(1, [
            ("(fn x x)", "(fn y y)"),
            ("(fn x (fn y (x y)))", "(fn y (fn x (y x)))"),
            ("(rec f x (f x))", "(rec x f (x f))"),
            ("(let x x x)", "(let y x y)"),
            ("(case l a h t (h t))", "(case l a t h (t h))"),
            ("(fn x y)", "(fn z y)"),
            ("(fn x (fn x x))", "(fn x (fn y y))"),
            ("(fn x (v0 (v1 x)))", "(fn v2 (v0 (v1 v2)))"),
            ("(fn v1 v0)", "(fn v2 v0)"),
        ])

    def test_blanks_and_spellings(self):
        self.hold(1, [
            ("(+ 1 0.50)", " ( + 01 2/4 ) "),
            ("-0[m]", "0.0[m]"),
            ("(^ x -0)", "(^ x 0)"),
            ("(+ 1 -2)", "(+1-2)"),
        ])

    def test_names_bound_twice_by_one_form(self):
        self.hold(1, [
            ("(rec x x x)", "(rec f x x)"),
            ("(case l a x x x)", "(case l a h x x)"),
            ("(case l a x x x)", "(case l a y z z)"),
        ])
        self.hold(0, [
            ("(rec x x x)", "(rec x y x)"),
            ("(case l a x x x)", "(case l a x y x)"),
        ])


class NotAlike(Pairs):
    def test_free_names(self):
        self.hold(0, [
            ("x", "y"),
            ("(fn x y)", "(fn x z)"),
            ("v0", "v1"),
            ("(fn x v0)", "(fn x v1)"),
            ("(let x x x)", "(let x y x)"),
        ])

    def test_bound_here_and_free_there(self):
        self.hold(0, [
            ("(fn x x)", "(fn x y)"),
            ("(fn v0 v0)", "(fn x v0)"),
            ("(fn x (fn y x))", "(fn x (fn y y))"),
            ("(let x x x)", "(let x 1 x)"),
            ("(pair (fn x x) x)", "(pair (fn y x) x)"),
            ("(case h t h t h)", "(case h t h t l)"),
            ("(fn x v0)", "(fn v1 v1)"),
        ])

    def test_numbers_and_measures(self):
        self.hold(0, [
            ("1", "2"),
            ("1", "-1"),
            ("1/2", "2"),
            ("1", "1[m]"),
            ("1[m]", "1[s]"),
            ("1[m.s]", "1[s.m]"),
            ("1[1]", "1"),
            ("1[m^2]", "1[m^02]"),
            ("0", "0[m]"),
            ("1[v0]", "1[v1]"),
        ])

    def test_forms(self):
        self.hold(0, [
            ("true", "false"),
            ("nil", "true"),
            ("(+ a b)", "(- a b)"),
            ("(+ a b)", "(+ b a)"),
            ("(fst a)", "(snd a)"),
            ("(pair a b)", "(cons a b)"),
            ("(a b)", "(pair a b)"),
            ("(floor a b)", "(rest a b)"),
            ("(^ a 2)", "(^ a -2)"),
            ("(fn x x)", "(rec f x x)"),
            ("(let x a x)", "((fn x x) a)"),
            ("(rec f x x)", "(rec f x f)"),
            ("x", "(x x)"),
        ])


class MadeUp(unittest.TestCase):
    def test_held_against_terms_without_names(self):
        source = random.Random(6)
        met = [0, 0]
        for term in many_terms(1200, seed=6, most=25):
            other = changed(source, term)
            answer = int(nameless(term) == nameless(other))
            self.assertEqual(alike(core_of(term), core_of(other)), [0, answer], (term, other))
            met[answer] += 1
        self.assertGreater(min(met), 100)

    def test_other_names(self):
        source = random.Random(7)
        for term in many_terms(400, seed=7):
            other = renamed(term, lambda: "n" + str(source.randrange(10 ** 9)))
            self.assertEqual(alike(core_of(term), core_of(other)), [0, 1], (term, other))


class Faults(unittest.TestCase):
    def test_in_the_first_in_the_second_in_both(self):
        for text, (kind, place) in CORE_FAULTS.items():
            self.assertEqual(alike(text, "x"), [kind, place], text)
            self.assertEqual(alike("(f x)", text), [kind + 20, place], text)
            self.assertEqual(alike(text, text), [kind, place], text)
            self.assertEqual(alike(text, "(+ 1 ?"), [kind, place], text)
            self.assertEqual(alike("(+ 1 ?", text), [1, 5], text)

    def test_texts_of_two_thousand_bytes_and_one_more(self):
        long, longer = "x" + " " * 1999, "x" + " " * 2000
        self.assertEqual(alike(long, long), [0, 1])
        self.assertEqual(alike(long, "y"), [0, 0])
        for other in ("x", long, longer, "?", "(+", " " * 10000, "5["):
            self.assertEqual(alike(longer, other), [-1], other)
            self.assertEqual(alike(other, longer), [-1], other)
        self.assertEqual(alike("?" * 2001, "x"), [-1])
        self.assertEqual(alike("?" * 2000, "x"), [1, 0])
        self.assertEqual(alike("x", "?" * 2000), [21, 0])

    def test_a_long_core_text_is_no_matter(self):
        first, second = [f"(fn {name} ({name} {measured(1988)}))" for name in "xy"]
        self.assertEqual(plain(first), [-4])
        self.assertEqual(alike(first, second), [0, 1])
        self.assertEqual(alike(first, first.replace("m]", "s]")), [0, 0])


class Calls(unittest.TestCase):
    def test_what_is_handed_in_stays_and_nothing_is_kept(self):
        texts = ("(let x 5[m] (x (fn y (v0 y))))", "(let y 5[m] (y (fn x (v0 x))))", "1", " " * 2001, "?", "(f")
        for one in texts:
            for other in texts:
                call_twice(self, terms.alike, data(one), data(other))

    def test_one_list_as_both(self):
        for text, answer in (("(fn x (y x))", [0, 1]), ("(f", [6, 2]), (" " * 2001, [-1])):
            handed = data(text)
            self.assertEqual(terms.alike(handed, handed), answer)
            self.assertEqual(handed, data(text))


if __name__ == "__main__":
    unittest.main()
