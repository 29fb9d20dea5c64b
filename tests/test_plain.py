import unittest

from helper import CORE_FAULTS, call_twice, core, core_tree, data, measured, plain
from measuretext import terms
from model import core_of, many_terms, plain_of


class Cases(unittest.TestCase):
    def hold(self, cases):
        for text, found in cases.items():
            self.assertEqual(plain(text), found, text)
            self.assertEqual(plain(found), found, text)


class Forms(Cases):
    def test_each_form_that_binds(self):
        self.hold({
            "(fn x x)": "(fn v0 v0)",
            "(fn x y)": "(fn v0 y)",
            "(rec f x (f x))": "(rec v0 v1 (v0 v1))",
            "(let x 1 x)": "(let v0 1 v0)",
            "(case l a h t ((h t) b))": "(case l a v0 v1 ((v0 v1) b))",
        })

    def test_where_the_names_are_bound(self):
        self.hold({
            "(let x x x)": "(let v0 x v0)",
            "(let x (fn y (x y)) (x y))": "(let v0 (fn v1 (x v1)) (v0 y))",
            "(case (h t) (t h) h t (h t))": "(case (h t) (t h) v0 v1 (v0 v1))",
            "((fn x x) x)": "((fn v0 v0) x)",
            "(pair (rec f x (f x)) (f x))": "(pair (rec v0 v1 (v0 v1)) (f x))",
        })

    def test_the_order_of_the_binding_places(self):
        self.hold({
            "(let a (fn b b) (fn c (a c)))": "(let v0 (fn v1 v1) (fn v2 (v0 v2)))",
            "(let a (let b 1 b) (let c 2 (a c)))": "(let v0 (let v1 1 v1) (let v2 2 (v0 v2)))",
            "(case (fn a a) (fn b b) c d (fn e (c (d e))))":
                "(case (fn v0 v0) (fn v1 v1) v2 v3 (fn v4 (v2 (v3 v4))))",
            "(case (case l 1 a b a) 2 c d (c d))": "(case (case l 1 v0 v1 v0) 2 v2 v3 (v2 v3))",
            "(rec a b (fn c (a (b c))))": "(rec v0 v1 (fn v2 (v0 (v1 v2))))",
            "(pair (fn x x) (fn x x))": "(pair (fn v0 v0) (fn v1 v1))",
            "(fold (fn a a) (fn b b) (fn c c))": "(fold (fn v0 v0) (fn v1 v1) (fn v2 v2))",
            "(if (let x 1 x) (fn x x) (rec f x f))": "(if (let v0 1 v0) (fn v1 v1) (rec v2 v3 v2))",
            "(^ (fn x x) -2)": "(^ (fn v0 v0) -2)",
        })

    def test_the_same_name_twice_by_one_form(self):
        self.hold({
            "(rec x x x)": "(rec v0 v1 v1)",
            "(case l a x x x)": "(case l a v0 v1 v1)",
            "(rec x x (fn x x))": "(rec v0 v1 (fn v2 v2))",
        })

    def test_within_one_another(self):
        self.hold({
            "(fn x (fn x x))": "(fn v0 (fn v1 v1))",
            "(fn x (pair (fn x x) x))": "(fn v0 (pair (fn v1 v1) v0))",
            "(let x 1 (let x x x))": "(let v0 1 (let v1 v0 v1))",
            "(rec f x (case x f x f (x f)))": "(rec v0 v1 (case v1 v0 v2 v3 (v2 v3)))",
        })

    def test_nothing_bound(self):
        self.hold({
            "x": "x",
            "v0": "v0",
            "nil": "nil",
            "-3/4[m]": "-3/4[m]",
            "(+ a (^ b 2))": "(+ a (^ b 2))",
            "(v1 (v0 v1))": "(v1 (v0 v1))",
        })
        self.assertEqual(plain("  (+ 02 -0.50)"), "(+ 2 -1/2)")
        self.assertEqual(plain("(fn x(^x -0))"), "(fn v0 (^ v0 0))")


class FreshNames(Cases):
    def test_free_names_are_left_out(self):
        self.hold({
            "(fn x v0)": "(fn v1 v0)",
            "(fn x (fn y (v0 (x y))))": "(fn v1 (fn v2 (v0 (v1 v2))))",
            "(fn x (fn y (v1 (x y))))": "(fn v0 (fn v2 (v1 (v0 v2))))",
            "(pair (fn x x) (pair v0 (pair v1 v3)))": "(pair (fn v2 v2) (pair v0 (pair v1 v3)))",
            "(pair (fn v0 v0) v0)": "(pair (fn v1 v1) v0)",
            "(let v0 v0 v0)": "(let v1 v0 v1)",
            "(fn x v00)": "(fn v0 v00)",
            "(fn x v)": "(fn v0 v)",
        })

    def test_bound_ones_are_given_out(self):
        self.hold({
            "(fn v0 v0)": "(fn v0 v0)",
            "(fn v1 (fn v0 (v1 v0)))": "(fn v0 (fn v1 (v0 v1)))",
            "(fn v5 (fn v5 v5))": "(fn v0 (fn v1 v1))",
            "(fn v1 (v0 v1))": "(fn v1 (v0 v1))",
            "(pair (fn v1 v1) (fn v0 v1))": "(pair (fn v0 v0) (fn v2 v1))",
        })

    def test_ten_and_more(self):
        names = "abcdefghijklmno"
        deep = "".join(f"(fn {name} " for name in names) + "(j (k l))" + ")" * len(names)
        self.hold({deep: "".join(f"(fn v{number} " for number in range(15)) + "(v9 (v10 v11))" + ")" * 15})
        deep = "".join(f"(fn {name} " for name in names) + "(j (v9 v11))" + ")" * len(names)
        given = [number for number in range(17) if number not in (9, 11)]
        self.hold({deep: "".join(f"(fn v{number} " for number in given) + "(v10 (v9 v11))" + ")" * 15})

    def test_a_hundred_and_more(self):
        row = ["(fn x(fn x x))"] * 64
        plains = [f"(fn v{at} (fn v{at + 1} v{at + 1}))" for at in range(0, 128, 2)]
        while len(row) > 1:
            row = [f"({a}{b})" for a, b in zip(row[::2], row[1::2])]
            plains = [f"({a} {b})" for a, b in zip(plains[::2], plains[1::2])]
        self.hold({row[0]: plains[0]})


class MadeUp(unittest.TestCase):
    def test_as_the_words_say(self):
        for term in many_terms(1500, seed=5):
            found = plain(core_of(term))
            self.assertEqual(found, core_of(plain_of(term)))
            self.assertEqual(plain(found), found)

    def test_deep(self):
        deep = "(case " * 39 + "x" + " y h t h)" * 39
        found = "(case " * 39 + "x" + "".join(f" y v{at} v{at + 1} v{at})" for at in range(0, 78, 2))
        self.assertEqual(plain(deep), found)


class Limits(unittest.TestCase):
    def test_answers_of_two_thousand_bytes_and_one_more(self):
        for length in (1999, 2000, 2001, 2002):
            number = measured(length - len("(fn v0 (v0 ))"))
            text = "(fn x (x " + number + "))"
            self.assertEqual(plain(text), "(fn v0 (v0 " + number + "))" if length <= 2000 else [-4])
        long_name = "(fn abcdefghijkl abcdefghijkl)"
        number = measured(2000 - len("(pair  " + long_name + ")"))
        self.assertEqual(plain("(pair " + number + " " + long_name + ")"), "(pair " + number + " (fn v0 v0))")

    def test_faults_come_before_it(self):
        self.assertEqual(plain("(fn x (x " + measured(1988) + "))"), [-4])
        self.assertEqual(plain("(fn x (x " + measured(1988) + ")))"), [6, 1999])

    def test_texts_of_two_thousand_bytes_and_one_more(self):
        self.assertEqual(plain("x" + " " * 1999), "x")
        self.assertEqual(plain("x" + " " * 2000), [-1])
        self.assertEqual(plain(measured(2000)), measured(2000))
        self.assertEqual(plain(measured(2001)), [-1])
        self.assertEqual(plain("?" * 2000), [1, 0])
        self.assertEqual(plain("?" * 2001), [-1])
        self.assertEqual(plain("(" * 10000), [-1])

    def test_300_nodes(self):
        self.assertEqual(plain(core_tree(150)), core(core_tree(150)))


class Faults(unittest.TestCase):
    def test_each(self):
        for text, found in CORE_FAULTS.items():
            self.assertEqual(plain(text), found, text)


class Calls(unittest.TestCase):
    def test_what_is_handed_in_stays_and_nothing_is_kept(self):
        for text in ("(let x 5[m] (x (fn y (v0 y))))", "1", " " * 2001, *CORE_FAULTS):
            call_twice(self, terms.plain, data(text))


if __name__ == "__main__":
    unittest.main()
