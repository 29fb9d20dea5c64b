import unittest

from helper import CORE_FAULTS, call_twice, core_tree, data, free, measured
from measuretext import terms
from model import core_of, free_of, many_terms


class Cases(unittest.TestCase):
    def hold(self, cases):
        for text, found in cases.items():
            self.assertEqual(free(text), found.split(), text)


class Answers(unittest.TestCase):
    def test_lengths_and_bytes(self):
        self.assertEqual(terms.free(data("(f (+ x ab_1))")), [0, 1, 102, 1, 120, 4, 97, 98, 95, 49])
        self.assertEqual(terms.free(data("(abcdefghijkl a)")), [0, 12, *data("abcdefghijkl"), 1, 97])

    def test_none_is_zero_alone(self):
        for text in ("1", "true", "nil", "(fn x x)", "(cons 1 nil)", "(let x 1 x)", "(rec f x (f x))", "-5[m]",
                     "(^ 2 3)"):
            self.assertEqual(terms.free(data(text)), [0], text)


class Forms(Cases):
    def test_fn(self):
        self.hold({
            "x": "x",
            "(fn x x)": "",
            "(fn x y)": "y",
            "(fn x (x y))": "y",
            "((fn x x) x)": "x",
            "(x (fn x x))": "x",
            "(fn x (fn y ((x y) z)))": "z",
        })

    def test_rec_binds_both_of_its_names(self):
        self.hold({
            "(rec f x (f x))": "",
            "(rec f x ((f x) y))": "y",
            "((rec f x (f x)) (f x))": "f x",
            "(pair x (rec f x (f x)))": "x",
            "(rec x x x)": "",
        })

    def test_let_binds_in_its_second_part_alone(self):
        self.hold({
            "(let x 1 x)": "",
            "(let x x 1)": "x",
            "(let x x x)": "x",
            "(let x (f x) (g x))": "f x g",
            "(let f (fn x (f x)) (f x))": "f x",
            "((let x 1 x) x)": "x",
        })

    def test_case_binds_in_its_last_part_alone(self):
        self.hold({
            "(case l a h t b)": "l a b",
            "(case l a h t (h t))": "l a",
            "(case h 1 h t h)": "h",
            "(case l t h t t)": "l t",
            "(case (h t) (t h) h t ((h t) b))": "h t b",
            "(case nil 1 x x x)": "",
            "((case nil 1 h t (h t)) (h t))": "h t",
        })

    def test_forms_that_bind_nothing(self):
        self.hold({
            "(if a b c)": "a b c",
            "(a b)": "a b",
            "(pair a b)": "a b",
            "(fst a)": "a",
            "(snd a)": "a",
            "(cons a b)": "a b",
            "(fold f z l)": "f z l",
            "(+ a b)": "a b",
            "(- a b)": "a b",
            "(* a b)": "a b",
            "(/ a b)": "a b",
            "(< a b)": "a b",
            "(= a b)": "a b",
            "(floor a b)": "a b",
            "(rest a b)": "a b",
            "(root a)": "a",
            "(^ a 2)": "a",
        })


class Names(Cases):
    def test_bound_within_one_another(self):
        self.hold({
            "(fn x (fn x x))": "",
            "(fn x (pair (fn x x) x))": "",
            "(fn x (pair (fn y (x y)) y))": "y",
            "(let x 1 (let x x x))": "",
            "(let x (let x x x) x)": "x",
            "(rec f x (case f x f x (f x)))": "",
            "(pair (fn x x) (pair x (fn x x)))": "x",
        })

    def test_each_once_in_the_order_in_which_they_first_stand_free(self):
        self.hold({
            "(+ b (+ a (+ b a)))": "b a",
            "(pair (fn a (a c)) (pair b (pair a c)))": "c b a",
            "(fn z (f (g (f (h z)))))": "f g h",
            "((d c) (b a))": "d c b a",
            "(case (b a) c x y (d (c (a b))))": "b a c d",
            "(let x (z y) (y (z x)))": "z y",
        })

    def test_names_that_are_alike_but_not_the_same(self):
        self.hold({
            "(fn x (x1 (x_ (xx x))))": "x1 x_ xx",
            "(fn abcdefghijkl (abcdefghijk abcdefghijkl))": "abcdefghijk",
            "(v0 (fn v1 v10))": "v0 v10",
            "5[m]": "",
            "(fn x 5[x])": "",
        })

    def test_many(self):
        names = [f"n{number}" for number in range(150)]
        todo = list(names)
        while len(todo) > 1:
            todo = [f"({a} {b})" for a, b in zip(todo[::2], todo[1::2])] + todo[len(todo) // 2 * 2:]
        self.assertEqual(free(todo[0]), names)


class MadeUp(unittest.TestCase):
    def test_as_the_words_say(self):
        for term in many_terms(1500, seed=4):
            self.assertEqual(free(core_of(term)), free_of(term))

    def test_deep(self):
        self.assertEqual(free("(fn x " * 39 + "x" + ")" * 39), [])
        self.assertEqual(free("(fn x " * 39 + "y" + ")" * 39), ["y"])
        self.assertEqual(free("(let x " * 39 + "x" + " x)" * 39), ["x"])
        self.assertEqual(free("(f " * 39 + "x" + ")" * 39), ["f", "x"])


class Faults(unittest.TestCase):
    def test_each(self):
        for text, found in CORE_FAULTS.items():
            self.assertEqual(free(text), found, text)

    def test_texts_of_two_thousand_bytes_and_one_more(self):
        self.assertEqual(free("x" + " " * 1999), ["x"])
        self.assertEqual(free("x" + " " * 2000), [-1])
        self.assertEqual(free(measured(2000)), [])
        self.assertEqual(free(measured(2001)), [-1])
        self.assertEqual(free("?" * 2000), [1, 0])
        self.assertEqual(free("?" * 2001), [-1])
        self.assertEqual(free("(" * 10000), [-1])

    def test_a_long_core_text_is_no_matter(self):
        self.assertEqual(free("(+" + measured(1996) + "a)"), ["a"])
        self.assertEqual(free(core_tree(150)), ["x"])


class Calls(unittest.TestCase):
    def test_what_is_handed_in_stays_and_nothing_is_kept(self):
        for text in ("(let x 5[m] (x y))", "1", " " * 2001, *CORE_FAULTS):
            call_twice(self, terms.free, data(text))


if __name__ == "__main__":
    unittest.main()
