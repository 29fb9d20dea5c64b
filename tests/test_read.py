import unittest

from helper import TAKEN, call_twice, data, read, tree
from measuretext import terms
from measuretext.reader import surface_term


class Cases(unittest.TestCase):
    def hold(self, cases):
        for text, found in cases.items():
            self.assertEqual(read(text), found, text)


class Examples(Cases):
    def test_of_the_document(self):
        self.hold({
            "let f x = x ^ 2 in f 3[m] > 5": "(let f (fn x (^ x 2)) (< 5 (f 3[m])))",
            "1 + ": [6, 4],
            "(1": [6, 2],
            "a < b < c": [6, 6],
            "": [6, 0],
            "1.5.2": [1, 3],
            "x {note": [2, 2],
            "5[m": [5, 1],
            "5[m..s]": [5, 1],
            "f (x) <= [1]": "(if (< (cons 1 nil) (f x)) false true)",
            "a - b + c": "(+ (- a b) c)",
            "a ^ 2 ^ -1": "(^ (^ a 2) -1)",
            "f a b": "((f a) b)",
            "fst p x": "((fst p) x)",
            "let f x y = x + 2 * y in f 1 (-3)": "(let f (fn x (fn y (+ x (* 2 y)))) ((f 1) -3))",
        })

    def test_the_answer_is_zero_and_the_bytes(self):
        self.assertEqual(terms.read(data("a+1")), [0, 40, 43, 32, 97, 32, 49, 41])


class Rules(Cases):
    def test_functions(self):
        self.hold({
            "fun x -> x": "(fn x x)",
            "fun x y z -> x": "(fn x (fn y (fn z x)))",
            "fun x x -> x": "(fn x (fn x x))",
            "fun x -> fun y -> x y": "(fn x (fn y (x y)))",
            "rec f x -> f x": "(rec f x (f x))",
            "rec f x y z -> f": "(rec f x (fn y (fn z f)))",
            "fun x -> x or y": "(fn x (if x true y))",
        })

    def test_let(self):
        self.hold({
            "let x = 1 in x": "(let x 1 x)",
            "let f x y = x in f": "(let f (fn x (fn y x)) f)",
            "let rec f x = f x in f 1": "(let f (rec f x (f x)) (f 1))",
            "let rec f x y z = 1 in 2": "(let f (rec f x (fn y (fn z 1))) 2)",
            "let x = let y = 1 in y in let z = 2 in z": "(let x (let y 1 y) (let z 2 z))",
            "let x = fun y -> y in x": "(let x (fn y y) x)",
            "let x = rec f y -> y in x": "(let x (rec f y y) x)",
            "let x = a = b in x": "(let x (= a b) x)",
        })

    def test_if_and_match(self):
        self.hold({
            "if a then b else c": "(if a b c)",
            "if if a then b else c then d else if e then f else g": "(if (if a b c) d (if e f g))",
            "match l with [] -> a | h :: t -> b": "(case l a h t b)",
            "match l with [ ] -> match m with [] -> a | x :: y -> b | h :: t -> c":
                "(case l (case m a x y b) h t c)",
            "match a::b with []->[]|h::t->h::t": "(case (cons a b) nil h t (cons h t))",
            "match (a, b) with [] -> fun x -> x | h :: h -> let x = 1 in x": "(case (pair a b) (fn x x) h h (let x 1 x))",
        })

    def test_or_and_not(self):
        self.hold({
            "a or b": "(if a true b)",
            "a and b": "(if a b false)",
            "not a": "(if a false true)",
            "a or b or c": "(if a true (if b true c))",
            "a and b and c": "(if a (if b c false) false)",
            "not not a": "(if (if a false true) false true)",
            "a or b and c": "(if a true (if b c false))",
            "a and b or c": "(if (if a b false) true c)",
            "not a and b": "(if (if a false true) b false)",
            "not a < b": "(if (< a b) false true)",
            "a and not b or not c": "(if (if a (if b false true) false) true (if c false true))",
        })

    def test_compare(self):
        self.hold({
            "a < b": "(< a b)",
            "a = b": "(= a b)",
            "a > b": "(< b a)",
            "a <= b": "(if (< b a) false true)",
            "a >= b": "(if (< a b) false true)",
            "a <> b": "(if (= a b) false true)",
            "a + 1 < b :: c": "(< (+ a 1) (cons b c))",
            "(a < b) = (c > d)": "(= (< a b) (< d c))",
        })

    def test_consing_sum_product(self):
        self.hold({
            "a :: b": "(cons a b)",
            "a :: b :: c": "(cons a (cons b c))",
            "a + b :: c * d": "(cons (+ a b) (* c d))",
            "a + b + c": "(+ (+ a b) c)",
            "a - b - c": "(- (- a b) c)",
            "a - (b - c)": "(- a (- b c))",
            "a * b / c": "(/ (* a b) c)",
            "a / b * c": "(* (/ a b) c)",
            "a + b * c - d / e": "(- (+ a (* b c)) (/ d e))",
            "a -1": "(- a 1)",
            "a - -1": "(- a -1)",
            "a--1": "(- a -1)",
            "3 / 4": "(/ 3 4)",
            "1/2/3": "(/ 1/2 3)",
            "2 * -3": "(* 2 -3)",
        })

    def test_power(self):
        self.hold({
            "a ^ 2": "(^ a 2)",
            "a^-9": "(^ a -9)",
            "a ^ - 3": "(^ a -3)",
            "a ^ 0": "(^ a 0)",
            "a ^ - 0": "(^ a 0)",
            "a ^ 2 ^ 3": "(^ (^ a 2) 3)",
            "a * b ^ 2": "(* a (^ b 2))",
            "f a ^ 2": "(^ (f a) 2)",
            "-3 ^ 2": "(^ -3 2)",
            "a ^ 2 - 1": "(- (^ a 2) 1)",
            "a^2/3": [6, 2],
            "a^2/b": "(/ (^ a 2) b)",
        })

    def test_apply_and_head(self):
        self.hold({
            "f a": "(f a)",
            "f a b c": "(((f a) b) c)",
            "f (g a)": "(f (g a))",
            "f 1 true [] (2)": "((((f 1) true) nil) 2)",
            "f false 2/3 x": "(((f false) 2/3) x)",
            "fst true false": "((fst true) false)",
            "fst a": "(fst a)",
            "snd a": "(snd a)",
            "root a": "(root a)",
            "floor a b": "(floor a b)",
            "rest a b": "(rest a b)",
            "fold f z l": "(fold f z l)",
            "snd p x": "((snd p) x)",
            "root 4 x y": "(((root 4) x) y)",
            "floor a b c": "((floor a b) c)",
            "rest a b c d": "(((rest a b) c) d)",
            "fold f z l x": "((fold f z l) x)",
            "fst (snd a)": "(fst (snd a))",
            "-1 x": "(-1 x)",
            "5 [m]": "(5 (cons m nil))",
            "5[m][s]": "(5[m] (cons s nil))",
            "12abc": "(12 abc)",
            "root 4 ^ 2": "(^ (root 4) 2)",
        })

    def test_brackets_and_lists(self):
        self.hold({
            "(a)": "a",
            "((a))": "a",
            "(fun x -> x) y": "((fn x x) y)",
            "(a, b)": "(pair a b)",
            "(a, b, c)": "(pair a (pair b c))",
            "((a, b), c)": "(pair (pair a b) c)",
            "(a, (b, c))": "(pair a (pair b c))",
            "(if a then b else c, fun x -> x, d)": "(pair (if a b c) (pair (fn x x) d))",
            "[]": "nil",
            "[ { } ]": "nil",
            "[a]": "(cons a nil)",
            "[a, b]": "(cons a (cons b nil))",
            "[[a], [], (b)]": "(cons (cons a nil) (cons nil (cons b nil)))",
            "[a or b, let x = 1 in x]": "(cons (if a true b) (cons (let x 1 x) nil))",
            "[(a, b)]": "(cons (pair a b) nil)",
        })

    def test_atoms(self):
        self.hold({
            "x": "x",
            "abcdefghijkl": "abcdefghijkl",
            "true": "true",
            "false": "false",
            "0": "0",
            "truths": "truths",
            "lets": "lets",
        })

    def test_blanks_and_comments(self):
        self.hold({
            "{a} x {b}": "x",
            "\n f\n  x\n": "(f x)",
            "f{}x": "(f x)",
            "(a+b)*c": "(* (+ a b) c)",
            "a{-1}-{+}b": "(- a b)",
        })


class Numbers(Cases):
    def test_lowest_terms(self):
        self.hold({
            "2/4": "1/2",
            "6/3": "2",
            "0/7": "0",
            "0.0": "0",
            "0.50": "1/2",
            "02.50": "5/2",
            "007": "7",
            "10/4": "5/2",
            "1.000000000000": "1",
            "0.000000000002": "1/500000000000",
            "123456789012.5": "246913578025/2",
            "999999999999/999999999998": "999999999999/999999999998",
        })

    def test_minus(self):
        self.hold({
            "-3": "-3",
            "- 3": "-3",
            "-{}3": "-3",
            "-2/4": "-1/2",
            "-0": "0",
            "- 0.00": "0",
            "-0[m]": "0[m]",
            "-0/5[km]": "0[km]",
            "-1.5[m/s]": "-3/2[m/s]",
        })

    def test_measures(self):
        self.hold({
            "5[km]": "5[km]",
            "05.0[m.s^-1]": "5[m.s^-1]",
            "2/4[1]": "1/2[1]",
            "1[let^02/m]": "1[let^02/m]",
        })


class Faults6(Cases):
    def test_a_token_that_cannot_stand_there(self):
        self.hold({
            ")": [6, 0],
            "x )": [6, 2],
            "x]": [6, 1],
            "a , b": [6, 2],
            "()": [6, 1],
            "(,": [6, 1],
            "(a,)": [6, 3],
            "(a b": [6, 4],
            "(a]": [6, 2],
            "[a)": [6, 2],
            "[,": [6, 1],
            "[a,]": [6, 3],
            "[a;b]": [1, 2],
            "- x": [6, 2],
            "- - 3": [6, 2],
            "-(3)": [6, 1],
            "a + + b": [6, 4],
            "* a": [6, 0],
            "a < = b": [6, 4],
            "a <= b >= c": [6, 7],
            "a = not b": [6, 4],
            "a + fun x -> x": [6, 4],
            "f fun x -> x": [6, 2],
            "a :: if b then c else d": [6, 5],
            "a or let x = 1 in x": [6, 5],
            "not if a then b else c": [6, 4],
            "a -> b": [6, 2],
            "a | b": [6, 2],
            "a in b": [6, 2],
        })

    def test_words_and_names(self):
        self.hold({
            "f fst x": [6, 2],
            "fst fst x": [6, 4],
            "fst -3": [6, 4],
            "floor a + b": [6, 8],
            "fold f z * l": [6, 9],
            "fun -> x": [6, 4],
            "fun 1 -> x": [6, 4],
            "fun let -> x": [6, 4],
            "fun x = x": [6, 6],
            "fun x 1 -> x": [6, 6],
            "rec f -> x": [6, 6],
            "rec rec f x -> x": [6, 4],
            "let = 1 in x": [6, 4],
            "let x 1 in x": [6, 6],
            "let x -> 1 in x": [6, 6],
            "let rec f = 1 in x": [6, 10],
            "let f rec x = 1 in x": [6, 6],
            "let x = 1 then x": [6, 10],
            "if a else b": [6, 5],
            "if a then b in c": [6, 12],
            "match l with ] -> a": [6, 13],
            "match l with [a] -> a": [6, 14],
            "match l with [] = a": [6, 16],
            "match l with [] -> a , h": [6, 21],
            "match l with [] -> a | 1 :: t -> b": [6, 23],
            "match l with [] -> a | h : t -> b": [1, 25],
            "match l with [] -> a | h -> b": [6, 25],
            "match l with [] -> a | h :: [] -> b": [6, 28],
            "match l with [] -> a | h :: t = b": [6, 30],
        })
        for word in "fn cons case pair nil truth num list base unit def in then else with and or".split():
            self.assertEqual(read(word), [6, 0], word)
            self.assertEqual(read("f " + word)[:2], [6, 2] if word not in ("and", "or") else [6, 2 + len(word)], word)

    def test_taken_words_are_not_bound(self):
        for word in TAKEN:
            self.assertEqual(read("fun " + word + " -> x"), [6, 4], word)
            self.assertEqual(read("fun x " + word + " -> x"), [6, 6], word)
            self.assertEqual(read("rec f " + word + " -> x"), [6, 6], word)
            self.assertEqual(read("let rec " + word + " x = 1 in x"), [6, 8], word)
            self.assertEqual(read("match l with [] -> a | " + word + " :: t -> b"), [6, 23], word)
            if word != "rec":
                self.assertEqual(read("let " + word + " = 1 in x"), [6, 4], word)

    def test_exponents(self):
        for text in ("10", "02", "2.0", "2/1", "2[m]", "x", "(2)", "+2", "- x", "--2", "-10", "- 2[m]", "true", ")"):
            place = 4 + len(text) - len(text.lstrip("- ")) if text.startswith("-") else 4
            if text == "--2":
                place = 5
            self.assertEqual(read("x ^ " + text), [6, place], text)
        self.hold({
            "^": [6, 0],
            "x ^ 2 y": [6, 6],
            "x ^ 2 3": [6, 6],
            "x ^ 2 (3)": [6, 6],
            "x ^ 2[m": [5, 5],
        })

    def test_the_end_of_the_text(self):
        for text in ("", "  ", "{a}", "fun", "fun x", "fun x ->", "rec f", "let", "let x", "let x =", "let x = 1",
                     "let x = 1 in", "let rec", "let rec f x = 1", "if", "if a", "if a then", "if a then b",
                     "if a then b else", "match", "match l", "match l with", "match l with [", "match l with []",
                     "match l with [] ->", "match l with [] -> a", "match l with [] -> a |",
                     "match l with [] -> a | h", "match l with [] -> a | h ::", "match l with [] -> a | h :: t",
                     "match l with [] -> a | h :: t ->", "a or", "a and", "not", "a <", "a <>", "a ::", "a +", "a -",
                     "a *", "a /", "a ^", "a ^ -", "-", "fst", "floor", "floor a", "fold a b", "(", "(a", "(a,", "[",
                     "[a", "[a,", "f (", "1 + {note} \n"):
            self.assertEqual(read(text), [6, len(text)], text)
            self.assertEqual(read(text + " \n"), [6, len(text) + 2], text)

    def test_faults_of_tokens_come_first(self):
        self.hold({
            ") ?": [1, 2],
            ") {": [2, 2],
            ") abcdefghijklm": [3, 2],
            ") 1/0": [4, 2],
            ") 5[]": [5, 3],
            "(" * 50 + "?": [1, 50],
        })


class Faults7(Cases):
    def test_brackets(self):
        self.hold({
            "(" * 39 + "x" + ")" * 39: "x",
            "(" * 40 + "x" + ")" * 40: [7, 40],
            "(" * 40: [7, 40],
            "(" * 40 + "  ": [7, 42],
            "(" * 40 + " {a} )": [7, 45],
            "(" * 41: [7, 40],
            "(" * 39 + ")": [6, 39],
            "(" * 39: [6, 39],
            "(" * 39 + "x, y" + ")" * 39: "(pair x y)",
        })

    def test_lists(self):
        def nested(count, within):
            return "(cons " * count + within + " nil)" * count

        self.hold({
            "[" * 39 + "]" * 39: nested(38, "nil"),
            "[" * 40 + "]" * 40: nested(39, "nil"),
            "[" * 39 + "x" + "]" * 39: nested(39, "x"),
            "[" * 40 + "x" + "]" * 40: [7, 40],
            "[" * 40: [7, 40],
            "[" * 40 + " ": [7, 41],
            "[" * 40 + ")": [7, 40],
            "[" * 41 + "]" * 41: [7, 40],
        })

    def test_the_other_forms(self):
        # What stands before the form's first expression; from there to before the x; behind the x.
        for lead, middle, closing in (
            ("fun x -> ", "", ""),
            ("rec f x -> ", "", ""),
            ("let x = ", "", " in 1"),
            ("let x = ", "1 in ", ""),
            ("let rec f x = ", "1 in ", ""),
            ("if ", "", " then 1 else 2"),
            ("if ", "1 then ", " else 2"),
            ("if ", "1 then 2 else ", ""),
            ("match ", "", " with [] -> 1 | h :: t -> 2"),
            ("match ", "1 with [] -> ", " | h :: t -> 2"),
            ("match ", "1 with [] -> 2 | h :: t -> ", ""),
            ("1 + (", "", ")"),
            ("[", "1, ", "]"),
            ("(", "1, ", ")"),
        ):
            form = lead + middle
            place = 39 * len(form) + len(lead)
            self.assertNotIn(read(form * 39 + "x" + closing * 39)[0], (6, 7), form)
            self.assertEqual(read(form * 40 + "x" + closing * 40), [7, place], form)
            self.assertEqual(read(form * 40), [7, place], form)
            self.assertEqual(read(form * 39 + ")"), [6, 39 * len(form)], form)

    def test_expressions_that_have_ended_do_not_count(self):
        inner = "(" * 38 + "x" + ")" * 38
        self.assertEqual(read("[" + ", ".join([inner] * 3) + "]"), "(cons x (cons x (cons x nil)))")
        self.assertEqual(read(inner + " " + inner), "(x x)")
        self.assertEqual(read("(" + inner + ") + ((" + inner + "))"), [7, len(inner) + 5 + 40])

    def test_the_first_of_6_and_7(self):
        self.hold({
            "x ) " + "(" * 41: [6, 2],
            "(" * 40 + "x ) )": [7, 40],
            "match x with [" + "(" * 41: [6, 14],
        })


class Faults8And9(Cases):
    def test_depth(self):
        def powers(count):
            return "x" + "^2" * count

        self.assertEqual(read(powers(39)), "(^ " * 39 + "x" + " 2)" * 39)
        self.assertEqual(read(powers(40)), [8, 0])
        self.assertEqual(read("f (" + powers(38) + ")"), "(f " + "(^ " * 38 + "x" + " 2)" * 38 + ")")
        self.assertEqual(read("f (" + powers(39) + ")"), [8, 3])
        self.assertEqual(read("f ((" + powers(39) + "))"), [8, 4])
        self.assertEqual(read("f (" + powers(200) + ")"), [8, 3])

    def test_depth_where_the_first_deep_node_is_no_leaf(self):
        row = "::".join("a" * 50)
        self.assertEqual(read("::".join("a" * 40)), "(cons a " * 39 + "a" + ")" * 39)
        self.assertEqual(read("::".join("a" * 41)), [8, 39 * 3])
        self.assertEqual(read(row), [8, 39 * 3])
        self.assertEqual(read("not " * 39 + "a"), "(if " * 39 + "a" + " false true)" * 39)
        self.assertEqual(read("not " * 40 + "a"), [8, 160])
        self.assertEqual(read("not " * 41 + "a"), [8, 160])
        self.assertEqual(read("{c} " + "a or " * 40 + "a"), [8, 4 + 39 * 5])
        self.assertEqual(read("{c} " + "a and " * 40 + "a"), [8, 4 + 39 * 6])

    def test_all_nodes_of_one_use_have_its_stretch(self):
        names = " ".join("x" * 39)
        self.assertEqual(read("fun " + names + " -> y"), "(fn x " * 39 + "y" + ")" * 39)
        self.assertEqual(read(" fun x " + names + " -> y"), [8, 4 + len(names) + 7])
        self.assertEqual(read(" fun x x " + names + " -> y"), [8, 1])
        self.assertEqual(read("a (rec f x x " + names + " -> y)"), [8, 3])
        self.assertEqual(read("a (let f x x " + names + " = 1 in y)"), [8, 3])
        self.assertEqual(read("a (let rec f x x " + names + " = 1 in y)"), [8, 3])
        self.assertEqual(read("[" + ",".join("x" * 39) + "]"), "(cons x " * 39 + "nil" + ")" * 39)
        self.assertEqual(read("[" + ",".join("x" * 40) + "]"), [8, 79])
        self.assertEqual(read(" [" + ",".join("x" * 41) + "]"), [8, 2 + 39 * 2])
        self.assertEqual(read("a [" + ",".join("xx" * 20) + ",(b)]"), [8, 3 + 38 * 2])
        self.assertEqual(read(" (" + ",".join("x" * 40) + ")"), "(pair x " * 39 + "x" + ")" * 39)
        self.assertEqual(read(" (" + ",".join("x" * 41) + ")"), [8, 80])
        self.assertEqual(read("a (" + ",".join(["x"] * 39 + ["not y", "z"]) + ")"), [8, 79])

    def test_the_stretch_of_a_round_begins_with_its_rule(self):
        self.assertEqual(read("a::" * 38 + "(b)+c+d"), [8, 38 * 3 + 1])
        self.assertEqual(read("a::" * 39 + "(b)+c"), [8, 39 * 3 + 1])
        self.assertEqual(read("a::" * 40 + "(b)+c"), [8, 39 * 3])
        self.assertEqual(read("a::" * 39 + "(b)+c+d"), [8, 39 * 3])
        self.assertEqual(read("a::" * 39 + "((b) c d)"), [8, 39 * 3 + 1])
        self.assertEqual(read("a::" * 39 + "{} ((b)*c*d)"), [8, 39 * 3 + 4])
        self.assertEqual(read("a::" * 39 + "(b)^2^2"), [8, 39 * 3])
        self.assertEqual(read("a::" * 38 + "((b) >= c)"), [8, 38 * 3 + 2])
        self.assertEqual(read("a::" * 39 + "((b) >= c)"), [8, 39 * 3 + 1])

    def test_turned_parts(self):
        self.assertEqual(read("(a) > " + "b" + "^2" * 39), [8, 6])
        self.assertEqual(read("(a) <= " + "b" + "^2" * 38), [8, 7])
        self.assertEqual(read("a" + "^2" * 39 + " > b"), [8, 0])
        self.assertEqual(read("a" + "^2" * 39 + " > b" + "^2" * 39), [8, 82])

    def test_count(self):
        self.assertEqual(read(tree(150))[:4], "(+ (")
        self.assertEqual(read(tree(151)), [9, tree(151).rindex("x")])
        self.assertEqual(read("fst " + tree(150))[:6], "(fst (")
        self.assertEqual(read("fst (fst " + tree(150) + ")"), [9, 9 + tree(150).rindex("x")])
        self.assertEqual(read(tree(200))[0], 9)

    def test_the_place_of_node_300(self):
        whole = tree(150)
        self.assertEqual(read("(" + whole + " , -3)"), [9, 2 + len(whole) + 2])
        self.assertEqual(read(whole + " + ((y))"), [9, len(whole) + 5])
        self.assertEqual(read(whole + " <= y"), [9, whole.rindex("x", 0, whole.rindex("x"))])
        self.assertEqual(read("not " + whole), [9, 0])
        self.assertEqual(read("y :: (not " + tree(149) + ")"), [9, 6])
        self.assertEqual(read(whole + " :: []"), [9, len(whole) + 4])
        self.assertEqual(read("[" + whole + "]"), [9, 0])

    def test_which_of_8_and_9(self):
        chain = "y" + "^2" * 39
        for text, kind in (
            ("fst (" + tree(129) + "+" + tree(1) + ")", 0),
            ("fst " + tree(130) + " + " + chain, 8),
            ("fst " + tree(130) + " + " + chain[:-2], 0),
            (tree(131) + " + " + chain, 9),
            (tree(130) + " + " + chain, 8),
            (chain + " + " + tree(200), 8),
            (tree(200) + " + " + chain, 9),
        ):
            answer = terms.read(data(text))
            self.assertEqual(answer[0], kind, text)
        both = "fst " + tree(130) + " + " + chain
        self.assertEqual(read(both), [8, both.index("y")])
        self.assertEqual(read(both + "^2"), [8, both.index("y")])
        self.assertEqual(read("fst (fst " + tree(130) + ") + " + chain), [9, both.index("y") + 6])

    def test_faults_6_and_7_come_first(self):
        self.assertEqual(read("not " * 41 + "a )"), [6, 166])
        self.assertEqual(read(tree(151) + "("), [6, len(tree(151)) + 1])
        self.assertEqual(read("not " * 41 + "(" * 40), [7, 204])


class Stretches(unittest.TestCase):
    def test_the_example_of_the_document(self):
        todo, found = [surface_term(data("f (x) <= [1]"))], []
        while todo:
            node = todo.pop()
            found.append((node.begin, node.end - 1))
            todo.extend(reversed(node.parts))
        whole = (0, 11)
        self.assertEqual(found, [whole, whole, (9, 11), (10, 10), (9, 11), (0, 4), (0, 0), (3, 3), whole, whole])


class LongAnswers(unittest.TestCase):
    def test_two_thousand_bytes_and_one_more(self):
        frame = len("(if  false true)") * 20
        for length, answer in ((1999, 0), (2000, 0), (2001, -4), (2002, -4)):
            number = "1[" + "m." * ((length - frame - 3) // 2)
            number = number + "m" * (length - frame - 1 - len(number)) + "]"
            number = number.replace(".]", "m]")
            found = terms.read(data("not " * 20 + number))
            core = "(if " * 20 + number + " false true)" * 20
            self.assertEqual(len(core), length)
            self.assertEqual(found, [0] + data(core) if answer == 0 else [-4])

    def test_faults_come_before_it(self):
        number = "1[" + ".".join(["m"] * 850) + "]"
        self.assertEqual(read("not " * 39 + number), [-4])
        self.assertEqual(read("not " * 40 + number), [8, 160])
        self.assertEqual(read("not " * 39 + number + " )"), [6, 39 * 4 + len(number) + 1])


class LongTexts(unittest.TestCase):
    def test_two_thousand_bytes_and_one_more(self):
        self.assertEqual(read("x" + " " * 1999), "x")
        self.assertEqual(read("x" + " " * 2000), [-1])
        self.assertEqual(read("?" * 2000), [1, 0])
        self.assertEqual(read("?" * 2001), [-1])
        self.assertEqual(read("?" * 10000), [-1])
        number = "1[" + "m." * 997 + "mm]"
        self.assertEqual(len(number), 1999)
        self.assertEqual(read(number), number)
        self.assertEqual(read("-" + number), "-" + number)
        self.assertEqual(read("- " + number), [-1])

    def test_long_rows_of_what_opens(self):
        self.assertEqual(read("(" * 2000), [7, 40])
        self.assertEqual(read("[" * 2000), [7, 40])
        self.assertEqual(read("((" * 500 + "x" + "))" * 499), [7, 40])
        self.assertEqual(read("not " * 500), [6, 2000])
        self.assertEqual(read("not " * 499 + "x"), [8, 160])
        self.assertEqual(read("fun x -> " * 222), [7, 360])

    def test_long_rows_of_signs_alone(self):
        for sign in ("^", "+", "*", "/", "=", ")", "]", ",", "|"):
            self.assertEqual(read(sign * 2000), [6, 0], sign)
        self.assertEqual(read("::" * 1000), [6, 0])
        self.assertEqual(read("-" * 2000), [6, 1])
        self.assertEqual(read("or " * 666), [6, 0])
        self.assertEqual(read("and " * 500), [6, 0])

    def test_long_rows_of_operands(self):
        for sign in ("+", "-", "*", "/", " ", "^"):
            row = "x" + (sign + "2") * 999
            self.assertEqual(read(row), [8, 0], sign)
            self.assertEqual(read("(" + row[2:] + ")"), [8, 1], sign)
        for sign in ("::", " or ", " and "):
            count = 2000 // (len(sign) + 1)
            row = (sign + "x") * count
            self.assertEqual(read(row[len(sign):]), [8, 39 * (len(sign) + 1)], sign)
            self.assertEqual(read((row + sign)[len(sign):]), [6, len(row)], sign)

    def test_long_lists_and_names(self):
        self.assertEqual(read("[" + "1," * 999 + "]"), [6, 1999])
        self.assertEqual(read("[" + "1," * 998 + "1]"), [8, 79])
        self.assertEqual(read("(" + "1," * 998 + "1)"), [8, 79])
        self.assertEqual(read("fun " + "x " * 996 + "->x"), [8, 0])
        self.assertEqual(read("f" + " x" * 999), [8, 0])


class Calls(unittest.TestCase):
    def test_what_is_handed_in_stays_and_nothing_is_kept(self):
        for text in ("let x = 5[m] in x", "1 +", "", "?", "(" * 50, "not " * 50 + "x", tree(151), " " * 2001):
            call_twice(self, terms.read, data(text))


if __name__ == "__main__":
    unittest.main()
