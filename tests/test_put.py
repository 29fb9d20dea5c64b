import random
import unittest

from helper import CORE_FAULTS, TAKEN, call_twice, core_tree, data, measured, plain, put, size
from measuretext import terms
from model import NAMES, core_of, many_terms, nameless, put_nameless, term_of

NO_NAMES = (
    "", " ", "abcdefghijklm", "a" * 10000, "x y", " x", "x ", "1x", "1", "_x", "_", "X", "xX", "x-", "x\n", "x\0",
    "\0", "\xff", "x\xe9", "(x)", "x.", "%", "x%", *TAKEN,
)


class Cases(unittest.TestCase):
    def hold(self, cases):
        for (name, first, second), found in cases.items():
            self.assertEqual(put(name, first, second), found, (name, first, second))
            if isinstance(found, str):
                self.assertEqual(plain(found), found)


class Example(Cases):
    def test_of_the_document(self):
        self.hold({("x", "(fn y (x y))", "y"): "(fn v0 (y v0))"})
        self.assertEqual(terms.put([120], data("x"), data("01")), [0, 49])


class Names(Cases):
    def test_that_are_none(self):
        for name in NO_NAMES:
            self.assertEqual(put(name, "x", "y"), [-3], name)
            for text in ("", "(f", "?", "(" * 41, "1/0", core_tree(151)):
                self.assertEqual(put(name, text, "y"), [-3], name)
                self.assertEqual(put(name, "x", text), [-3], name)
                self.assertEqual(put(name, text, text), [-3], name)

    def test_that_are_some(self):
        for name in ("x", "abcdefghijkl", "a_", "a1_b2", "v0", "lets", "truths", "z99999999999", "mod", "nils"):
            self.assertEqual(put(name, "(f " + name + ")", "(g y)"), "(f (g y))", name)
            self.assertEqual(put(name, "x1", name), "x1")


class Places(Cases):
    def test_a_name_that_is_not_free(self):
        self.hold({
            ("z", "(fn x (x y))", "1"): "(fn v0 (v0 y))",
            ("x", "(fn x x)", "1"): "(fn v0 v0)",
            ("x", "(rec x y (x y))", "z"): "(rec v0 v1 (v0 v1))",
            ("x", "(case l a x x x)", "z"): "(case l a v0 v1 v1)",
            ("x", "5[x]", "z"): "5[x]",
            ("x", "(let y 1 xx)", "v0"): "(let v0 1 xx)",
            ("z", "(fn x x)", "(fn v0 v1)"): "(fn v0 v0)",
            ("v0", "(fn v0 v0)", "v1"): "(fn v0 v0)",
            ("z", "02.50", "(fn x x)"): "5/2",
        })

    def test_a_name_that_stands_free_several_times(self):
        self.hold({
            ("x", "x", "(f y)"): "(f y)",
            ("x", "(x x)", "(f y)"): "((f y) (f y))",
            ("x", "(if x (pair x 1) (^ x 2))", "0.50"): "(if 1/2 (pair 1/2 1) (^ 1/2 2))",
            ("x", "(x (x (x y)))", "y"): "(y (y (y y)))",
        })

    def test_free_here_and_bound_there(self):
        self.hold({
            ("x", "(let x x x)", "y"): "(let v0 y v0)",
            ("x", "(x (fn x x))", "y"): "(y (fn v0 v0))",
            ("h", "(case h h h t h)", "y"): "(case y y v0 v1 v0)",
            ("x", "(fn y (fn x (x y)))", "y"): "(fn v0 (fn v1 (v1 v0)))",
            ("f", "((rec f x (f x)) f)", "x"): "((rec v0 v1 (v0 v1)) x)",
        })

    def test_each_form(self):
        self.hold({
            ("x", f"({form} x x)", "1"): f"({form} 1 1)"
            for form in "pair cons floor rest + - * / < =".split()
        })
        self.hold({
            ("x", "(fst x)", "1"): "(fst 1)",
            ("x", "(snd x)", "1"): "(snd 1)",
            ("x", "(root x)", "1"): "(root 1)",
            ("x", "(^ x -2)", "-1"): "(^ -1 -2)",
            ("x", "(fold x x x)", "1"): "(fold 1 1 1)",
            ("x", "(fn y x)", "1"): "(fn v0 1)",
            ("x", "(rec f y x)", "1"): "(rec v0 v1 1)",
            ("x", "(let y x x)", "1"): "(let v0 1 1)",
            ("x", "(case x x h t x)", "1"): "(case 1 1 v0 v1 1)",
        })


class NoneIsCaught(Cases):
    def test_free_names_that_the_first_term_binds(self):
        self.hold({
            ("x", "(fn y x)", "y"): "(fn v0 y)",
            ("x", "(fn y (fn z (x (y z))))", "(y z)"): "(fn v0 (fn v1 ((y z) (v0 v1))))",
            ("x", "(let y 1 (x y))", "y"): "(let v0 1 (y v0))",
            ("x", "(rec f y (f (y x)))", "(f y)"): "(rec v0 v1 (v0 (v1 (f y))))",
            ("x", "(case l a h t (h (t x)))", "(h t)"): "(case l a v0 v1 (v0 (v1 (h t))))",
        })

    def test_free_names_like_those_given_out(self):
        self.hold({
            ("x", "(fn y (x y))", "v0"): "(fn v1 (v0 v1))",
            ("x", "(fn y (x y))", "v1"): "(fn v0 (v1 v0))",
            ("x", "(fn v0 (x v0))", "v0"): "(fn v1 (v0 v1))",
            ("x", "(fn v0 (fn v1 (x (v0 v1))))", "(v0 v1)"): "(fn v2 (fn v3 ((v0 v1) (v2 v3))))",
            ("v0", "(fn y (v0 y))", "z"): "(fn v0 (z v0))",
            ("v0", "(fn v1 (v0 v1))", "v1"): "(fn v0 (v1 v0))",
            ("v0", "(fn y (v0 (v1 y)))", "v2"): "(fn v0 (v2 (v1 v0)))",
            ("x", "(fn y (v0 (x y)))", "v1"): "(fn v2 (v0 (v1 v2)))",
        })

    def test_bindings_of_the_second_term(self):
        self.hold({
            ("x", "(fn y (x y))", "(fn z z)"): "(fn v0 ((fn v1 v1) v0))",
            ("x", "(x x)", "(fn z (z y))"): "((fn v0 (v0 y)) (fn v1 (v1 y)))",
            ("x", "(fn y (x y))", "(fn y y)"): "(fn v0 ((fn v1 v1) v0))",
            ("x", "(let y x (x y))", "(fn v0 (v0 y))"): "(let v0 (fn v1 (v1 y)) ((fn v2 (v2 y)) v0))",
            ("x", "(case x x h t x)", "(fn a a)"): "(case (fn v0 v0) (fn v1 v1) v2 v3 (fn v4 v4))",
            ("x", "(fn y x)", "(fn v1 (v0 v1))"): "(fn v1 (fn v2 (v0 v2)))",
        })

    def test_the_name_itself_free_in_the_second_term(self):
        self.hold({
            ("x", "(x x)", "(f x)"): "((f x) (f x))",
            ("x", "(fn y (x y))", "(x y)"): "(fn v0 ((x y) v0))",
            ("x", "(let x x x)", "(x x)"): "(let v0 (x x) v0)",
            ("x", "x", "x"): "x",
            ("v0", "(fn v1 (v0 v1))", "(v0 v1)"): "(fn v2 ((v0 v1) v2))",
        })


class MadeUp(unittest.TestCase):
    def test_held_against_terms_without_names(self):
        source = random.Random(8)
        met = {}
        for first, second in zip(many_terms(1500, seed=8), many_terms(1500, seed=9, most=20)):
            name = source.choice(NAMES)
            found = put(name, core_of(first), core_of(second))
            outcome = put_nameless(name, nameless(first), nameless(second))
            if found == [-4]:
                self.assertTrue(nodes_and_depth(outcome)[0] > 300 or nodes_and_depth(outcome)[1] > 40)
            else:
                self.assertEqual(nameless(term_of(found)), outcome, (name, first, second))
                self.assertEqual(plain(found), found)
            met[outcome != nameless(first)] = met.get(outcome != nameless(first), 0) + 1
        self.assertGreater(min(met.values()), 300)


def nodes_and_depth(outcome):
    """Of a term without names, in which an exponent is the one piece that isn't a node."""
    if not isinstance(outcome, tuple):
        return 1, 1
    pieces = outcome[1:2] if outcome[0] == "^" else outcome[1:]
    found = [nodes_and_depth(piece) for piece in pieces]
    return 1 + sum(nodes for nodes, depth in found), 1 + max(depth for nodes, depth in found)


class Limits(unittest.TestCase):
    def test_300_and_301_nodes(self):
        first = "(pair " + core_tree(100) + " y)"
        self.assertEqual(size(first)[1], 201)
        for second, nodes in ((core_tree(50, "z"), 299), ("(fst " + core_tree(50, "z") + ")", 300),
                              ("(fst (fst " + core_tree(50, "z") + "))", 301), (core_tree(51, "z"), 301),
                              (core_tree(150, "z"), 499)):
            found = put("y", first, second)
            if nodes > 300:
                self.assertEqual(found, [-4], nodes)
            else:
                self.assertEqual(size(found)[1], nodes)

    def test_many_places(self):
        self.assertEqual(put("x", core_tree(150), core_tree(150)), [-4])
        self.assertEqual(size(put("x", core_tree(75), "(fst y)"))[1], 224)
        self.assertEqual(size(put("x", core_tree(100), "(fst y)"))[1], 299)
        self.assertEqual(put("x", core_tree(101), "(fst y)"), [-4])
        self.assertEqual(size(put("x", "(snd" + core_tree(100) + ")", "(fst y)"))[1], 300)
        self.assertEqual(put("x", "(snd(snd" + core_tree(100) + "))", "(fst y)"), [-4])

    def test_depth_40_and_41(self):
        for depth in (1, 2, 20, 39, 40):
            first = "(fn x " * (depth - 1) + "y" + ")" * (depth - 1)
            for other in (40 - depth, 41 - depth, 42 - depth):
                if 1 <= other <= 40:
                    second = "(fst " * (other - 1) + "z" + ")" * (other - 1)
                    found = put("y", first, second)
                    if depth + other - 1 > 40:
                        self.assertEqual(found, [-4])
                    else:
                        self.assertEqual(size(found)[2], depth + other - 1)

    def test_deep_terms_that_do_not_meet(self):
        deep = "(fst " * 39 + "x" + ")" * 39
        self.assertEqual(put("y", deep, deep), deep)
        self.assertEqual(put("y", "y", deep), deep)
        self.assertEqual(put("x", deep, "z"), deep.replace("x", "z"))
        self.assertEqual(put("x", deep, "(f z)"), [-4])
        self.assertEqual(put("x", deep, deep), [-4])

    def test_core_texts_of_2000_and_2001_bytes(self):
        for length in (1999, 2000, 2001, 2002):
            number = measured(length - len("(pair z )"))
            found = "(pair z " + number + ")"
            self.assertEqual(put("x", "(pair z x)", number), found if length <= 2000 else [-4])
            self.assertEqual(put("x", "(pair x " + number + ")", "z"), found if length <= 2000 else [-1])
        for length in (1999, 2000, 2001):
            number = measured(length - len("(fn v0 (v0 ))"))
            found = "(fn v0 (v0 " + number + "))"
            self.assertEqual(put("x", "(fn y (y x))", number), found if length <= 2000 else [-4])
            self.assertEqual(put("z", "(fn y (y " + number + "))", "1"), found if length <= 2000 else [-4])
        long = measured(700)
        self.assertEqual(put("x", "(pair x x)", long), "(pair " + long + " " + long + ")")
        self.assertEqual(put("x", "(fold x x x)", long), [-4])

    def test_names_that_are_shorter_afterwards(self):
        name = "abcdefghijkl"
        text = "(fn " + name + " (pair x " + name + "))"
        self.assertEqual(put("x", text, measured(1975)), "(fn v0 (pair " + measured(1975) + " v0))")


class Faults(unittest.TestCase):
    def test_in_the_first_in_the_second_in_both(self):
        for text, (kind, place) in CORE_FAULTS.items():
            self.assertEqual(put("x", text, "x"), [kind, place], text)
            self.assertEqual(put("x", "(f x)", text), [kind + 20, place], text)
            self.assertEqual(put("x", "y", text), [kind + 20, place], text)
            self.assertEqual(put("x", text, text), [kind, place], text)
            self.assertEqual(put("x", text, "(+ 1 ?"), [kind, place], text)
            self.assertEqual(put("x", "(+ 1 ?", text), [1, 5], text)

    def test_faults_come_before_minus_4(self):
        self.assertEqual(put("x", core_tree(150) + ")", core_tree(150)), [6, len(core_tree(150))])
        self.assertEqual(put("x", core_tree(150), core_tree(150) + ")"), [26, len(core_tree(150))])

    def test_texts_of_two_thousand_bytes_and_one_more(self):
        long, longer = "x" + " " * 1999, "x" + " " * 2000
        self.assertEqual(put("x", long, long), "x")
        for name in ("x", *NO_NAMES):
            for other in ("x", long, longer, "?", "(+", "5[", " " * 10000):
                self.assertEqual(put(name, longer, other), [-1], other)
                self.assertEqual(put(name, other, longer), [-1], other)
        self.assertEqual(put("x", "?" * 2000, "x"), [1, 0])
        self.assertEqual(put("x", "x", "?" * 2000), [21, 0])


class Calls(unittest.TestCase):
    def test_what_is_handed_in_stays_and_nothing_is_kept(self):
        texts = ("(let x y (x (fn y (v0 y))))", "x", core_tree(150), " " * 2001, "?", "(f")
        for name in ("x", "y", "let", ""):
            for one in texts:
                for other in texts:
                    call_twice(self, terms.put, data(name), data(one), data(other))

    def test_one_list_several_times(self):
        for text, answer in (("x", [0, 120]), ("(f", [-3]), ("let", [-3])):
            handed = data(text)
            self.assertEqual(terms.put(handed, handed, handed), answer)
            self.assertEqual(handed, data(text))
        handed = data("(fn y (x y))")
        self.assertEqual(terms.put(data("x"), handed, handed), [0, *data("(fn v0 ((fn v1 (x v1)) v0))")])
        self.assertEqual(handed, data("(fn y (x y))"))


if __name__ == "__main__":
    unittest.main()
