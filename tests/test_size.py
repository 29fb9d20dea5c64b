import unittest

from helper import CORE_FAULTS, call_twice, core_tree, data, measured, size
from measuretext import terms
from model import SHAPES, core_of, deep_terms, many_terms, size_of


class Cases(unittest.TestCase):
    def hold(self, cases):
        for text, found in cases.items():
            self.assertEqual(size(text), [0, *found], text)


class Forms(Cases):
    def test_each_form(self):
        for text in ("x", "-3/4", "5[km]", "true", "false", "nil"):
            self.hold({text: (1, 1, 0)})
        self.hold({
            "(fn x a)": (2, 2, 1),
            "(rec f x a)": (2, 2, 2),
            "(let x a b)": (3, 2, 1),
            "(if c a b)": (4, 2, 0),
            "(a b)": (3, 2, 0),
            "(pair a b)": (3, 2, 0),
            "(fst a)": (2, 2, 0),
            "(snd a)": (2, 2, 0),
            "(cons a b)": (3, 2, 0),
            "(case l a h t b)": (4, 2, 2),
            "(fold f z l)": (4, 2, 0),
            "(+ a b)": (3, 2, 0),
            "(- a b)": (3, 2, 0),
            "(* a b)": (3, 2, 0),
            "(/ a b)": (3, 2, 0),
            "(< a b)": (3, 2, 0),
            "(= a b)": (3, 2, 0),
            "(floor a b)": (3, 2, 0),
            "(rest a b)": (3, 2, 0),
            "(root a)": (2, 2, 0),
            "(^ a 2)": (2, 2, 0),
            "(^ a -2)": (2, 2, 0),
        })

    def test_the_greatest_depth_in_each_part(self):
        deep = "(fst (snd (root x)))"
        self.hold({
            "(fold " + deep + " a b)": (7, 5, 0),
            "(fold a " + deep + " b)": (7, 5, 0),
            "(fold a b " + deep + ")": (7, 5, 0),
            "(if (fst a) " + deep + " (fst a))": (9, 5, 0),
            "(" + deep + " " + deep + ")": (9, 5, 0),
            "(case " + deep + " a h t b)": (7, 5, 2),
            "(case l " + deep + " h t b)": (7, 5, 2),
            "(case l a h t " + deep + ")": (7, 5, 2),
            "(let x " + deep + " b)": (6, 5, 1),
            "(let x a " + deep + ")": (6, 5, 1),
        })

    def test_binding_places(self):
        self.hold({
            "(fn x (fn x (fn x x)))": (4, 4, 3),
            "(rec x x x)": (2, 2, 2),
            "(case l a x x x)": (4, 2, 2),
            "(let f (rec f x (fn y x)) (case f 1 h t (fn z 2)))": (9, 4, 7),
            "(pair (fn x x) (let x (fn x x) (rec f x x)))": (8, 4, 5),
            "(fn n (rec m o (let p 1 (case q 2 r s 3))))": (8, 5, 6),
        })


class MadeUp(unittest.TestCase):
    def test_as_the_words_say(self):
        for term in many_terms(1500, seed=10):
            self.assertEqual(size(core_of(term)), [0, *size_of(term)])


class Limits(unittest.TestCase):
    def test_300_nodes(self):
        self.assertEqual(size(core_tree(150))[1], 299)
        self.assertEqual(size("(fst" + core_tree(150) + ")"), [0, 300, 10, 0])
        self.assertEqual(size("(^" + core_tree(150) + "2)"), [0, 300, 10, 0])
        self.assertEqual(size(core_tree(151))[0], 9)

    def test_depth_40(self):
        for form, term in deep_terms("x"):
            shape = SHAPES[form]
            parts = shape.count("p") + shape.count("b")
            self.assertEqual(size(core_of(term)), [0, 1 + 39 * parts, 40, 39 * shape.count("n")], form)
        self.assertEqual(size("(fst " * 40 + "x" + ")" * 40), [8, 200])

    def test_texts_of_two_thousand_bytes_and_one_more(self):
        self.assertEqual(size("x" + " " * 1999), [0, 1, 1, 0])
        self.assertEqual(size("x" + " " * 2000), [-1])
        self.assertEqual(size(measured(2000)), [0, 1, 1, 0])
        self.assertEqual(size(measured(2001)), [-1])
        self.assertEqual(size("?" * 2000), [1, 0])
        self.assertEqual(size("?" * 2001), [-1])
        self.assertEqual(size("(" * 10000), [-1])

    def test_a_long_core_text_is_no_matter(self):
        self.assertEqual(size("(+" + measured(1996) + "a)"), [0, 3, 2, 0])


class Faults(unittest.TestCase):
    def test_each(self):
        for text, found in CORE_FAULTS.items():
            self.assertEqual(size(text), found, text)


class Calls(unittest.TestCase):
    def test_what_is_handed_in_stays_and_nothing_is_kept(self):
        for text in ("(let x 5[m] (x (fn y (v0 y))))", "1", " " * 2001, *CORE_FAULTS):
            call_twice(self, terms.size, data(text))


if __name__ == "__main__":
    unittest.main()
