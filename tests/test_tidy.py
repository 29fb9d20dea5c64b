import unittest

from derivation import many_derivations
from helper import SURFACE_FAULTS, call_twice, data, measured, read, show, tidy, tree
from measuretext import terms
from model import ranked


class Cases(unittest.TestCase):
    def hold(self, cases):
        for text, found in cases.items():
            self.assertEqual(tidy(text), found, text)
            self.assertEqual(tidy(found), found, text)
            self.assertEqual(read(found), read(text))


class Brackets(Cases):
    def test_those_that_are_not_needed_go(self):
        self.hold({
            "(x)": "x",
            "((((x))))": "x",
            "(a + b) + c": "a + b + c",
            "(a * b) + (c * d)": "a * b + c * d",
            "((f a) b)": "f a b",
            "(f (a))": "f a",
            "fst (p)": "fst p",
            "(a) ^ 2": "a ^ 2",
            "(f a) ^ 2": "f a ^ 2",
            "(a ^ 2) ^ 3": "a ^ 2 ^ 3",
            "a :: (b :: c)": "a :: b :: c",
            "((a + b) < (c :: d))": "a + b < c :: d",
            "fun x -> (fun y -> (x))": "fun x y -> x",
            "if (a) then (b) else (c)": "if a then b else c",
            "let x = (1) in (x)": "let x = 1 in x",
            "match (l) with [] -> (a) | h :: t -> (b)": "match l with [] -> a | h :: t -> b",
            "[(a), (b)]": "[a, b]",
            "((a), (b, c))": "(a, b, c)",
            "f ([])": "f []",
            "(-3) x": "-3 x",
            "a - (-3)": "a - -3",
        })

    def test_those_that_are_needed_stay(self):
        for text in ("a - (b - c)", "(2 - x) ^ 2", "f (-3)", "f (g x)", "(a, b)", "((a, b), c)", "(fun x -> x) y",
                     "(a < b) = c", "(a :: b) :: c", "f (a, b)", "a * (b + c)", "(if a then b else c) + 1",
                     "fst (fst p)", "f (a ^ 2)", "a / (b / c)", "1 :: (if a then [] else b)", "(let x = 1 in x) :: y"):
            self.assertEqual(tidy(text), text)
            self.assertEqual(tidy("(" + text + ")"), text)


class Signs(Cases):
    def test_what_parts_tokens_goes(self):
        self.hold({
            "{a} x {b}\n": "x",
            "\n f\n  x\n": "f x",
            "f{}x": "f x",
            "a+b": "a + b",
            "a   +\n\n{and}b": "a + b",
            "[1,2 ,3]": "[1, 2, 3]",
            "[ ]": "[]",
            "(a,b)": "(a, b)",
            "fun x->x": "fun x -> x",
            "match l with[]->a|h::t->b": "match l with [] -> a | h :: t -> b",
            "x^2": "x ^ 2",
            "x ^ - 2": "x ^ -2",
            "- 3": "-3",
            "a--1": "a - -1",
            "{a{b} x": "x",
        })

    def test_words_and_signs_that_read_to_another_form(self):
        self.hold({
            "a or b": "if a then true else b",
            "a and b": "if a then b else false",
            "not a": "if a then false else true",
            "a > b": "b < a",
            "a <= b": "if b < a then false else true",
            "a >= b": "if a < b then false else true",
            "a <> b": "if a = b then false else true",
            "a or b and not c": "if a then true else if b then if c then false else true else false",
            "(a > b) = c": "(b < a) = c",
            "f (a or b)": "f (if a then true else b)",
            "a + 1 > b :: c": "b :: c < a + 1",
        })

    def test_numbers_in_other_spellings(self):
        self.hold({
            "007": "7",
            "0.50": "1/2",
            "4/2": "2",
            "-6/4[m]": "-3/2[m]",
            "-0": "0",
            "f (-0)": "f 0",
            "x ^ -0": "x ^ 0",
            "f 1.50[m/s]": "f 3/2[m/s]",
            "3 / 4": "3 / 4",
            "3/4": "3/4",
            "1/2/3": "1/2 / 3",
        })


class Rules(Cases):
    def test_each_rule(self):
        for text in ("fun x -> x", "fun x y z -> x", "rec f x -> f x", "rec f x y z -> f", "let x = 1 in x",
                     "let f x y = x in f", "let rec f x = f x in f 1", "let rec f x y = 1 in 2",
                     "if a then b else c", "match l with [] -> a | h :: t -> b", "a < b", "a = b", "a :: b",
                     "a :: b :: c", "a + b - c", "a * b / c", "a ^ 2 ^ -1", "f a b", "-3", "fst a", "snd a", "root a",
                     "floor a b", "rest a b", "fold f z l", "fst p x", "x", "5[km]", "true", "false", "(a, b)",
                     "(a, b, c)", "[]", "[a]", "[a, b]"):
            self.assertEqual(tidy(text), text)

    def test_functions_that_join(self):
        self.hold({
            "fun x -> fun y -> x": "fun x y -> x",
            "rec f x -> fun y -> x": "rec f x y -> x",
            "let f = fun x -> fun y -> x in f": "let f x y = x in f",
            "let f x = fun y -> x in f": "let f x y = x in f",
            "let f = rec f x -> fun y -> x in f": "let rec f x y = x in f",
            "let f = rec g x -> x in f": "let f = rec g x -> x in f",
            "a :: []": "[a]",
            "a :: b :: [c, d]": "[a, b, c, d]",
            "(a, (b, (c, d)))": "(a, b, c, d)",
        })


class Derived(unittest.TestCase):
    def test_texts_made_by_the_rules(self):
        good = 0
        for derivation in many_derivations(500):
            answer = derivation.fault()
            found = tidy(derivation.text)
            if answer is not None:
                self.assertEqual(found, answer, derivation.text)
                continue
            shown = ranked(derivation.node.term())
            self.assertEqual(found, shown if len(shown) <= 2000 else [-4], derivation.text)
            if len(shown) <= 2000:
                self.assertEqual(tidy(found), found)
                core = read(derivation.text)
                if core != [-4]:
                    self.assertEqual(show(core), found)
                good += 1
        self.assertGreater(good, 250)


class Limits(unittest.TestCase):
    def test_answers_of_two_thousand_bytes_and_one_more(self):
        lead, rest = "if ", " then false else true"
        for length in (1999, 2000, 2001, 2002):
            number = measured(length - len(lead + rest))
            self.assertEqual(tidy("not " + number), lead + number + rest if length <= 2000 else [-4])

    def test_faults_come_before_it(self):
        self.assertEqual(tidy("not " + measured(1990) + ")"), [6, 1994])
        self.assertEqual(tidy("not " * 39 + measured(1800)), [-4])
        self.assertEqual(tidy("not " * 40 + measured(1800)), [8, 160])

    def test_texts_of_two_thousand_bytes_and_one_more(self):
        self.assertEqual(tidy("x" + " " * 1999), "x")
        self.assertEqual(tidy("x" + " " * 2000), [-1])
        self.assertEqual(tidy(measured(2000)), measured(2000))
        self.assertEqual(tidy(measured(2001)), [-1])
        self.assertEqual(tidy("?" * 2000), [1, 0])
        self.assertEqual(tidy("?" * 2001), [-1])
        self.assertEqual(tidy("(" * 10000), [-1])

    def test_300_nodes(self):
        self.assertEqual(tidy(tree(150)).replace(" ", ""), tidy(tree(150).replace("+", "{}+{}")).replace(" ", ""))
        self.assertEqual(read(tidy(tree(150))), read(tree(150)))


class Faults(unittest.TestCase):
    def test_each(self):
        for text, found in SURFACE_FAULTS.items():
            self.assertEqual(tidy(text), found, text)


class Calls(unittest.TestCase):
    def test_what_is_handed_in_stays_and_nothing_is_kept(self):
        for text in ("let x = (5[m]) in (x)", "not " + measured(1990), " " * 2001, *SURFACE_FAULTS):
            call_twice(self, terms.tidy, data(text))


if __name__ == "__main__":
    unittest.main()
