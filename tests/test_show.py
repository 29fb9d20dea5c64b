import unittest

from helper import CORE_FAULTS, call_twice, core, core_tree, data, measured, read, show
from measuretext import terms
from model import core_of, deep_terms, many_terms, ranked

# A term of each kind, its surface text and its rank.
KINDS = (
    ("x", "x", 10),
    ("true", "true", 10),
    ("false", "false", 10),
    ("3", "3", 10),
    ("3/4", "3/4", 10),
    ("5[m]", "5[m]", 10),
    ("0", "0", 10),
    ("-3", "-3", 9),
    ("-3/4[m]", "-3/4[m]", 9),
    ("nil", "[]", 10),
    ("(pair a b)", "(a, b)", 10),
    ("(cons a nil)", "[a]", 10),
    ("(cons a b)", "a :: b", 5),
    ("(fn x a)", "fun x -> a", 0),
    ("(rec f x a)", "rec f x -> a", 0),
    ("(let x a b)", "let x = a in b", 0),
    ("(if c a b)", "if c then a else b", 0),
    ("(case l a h t b)", "match l with [] -> a | h :: t -> b", 0),
    ("(< a b)", "a < b", 4),
    ("(= a b)", "a = b", 4),
    ("(+ a b)", "a + b", 6),
    ("(- a b)", "a - b", 6),
    ("(* a b)", "a * b", 7),
    ("(/ a b)", "a / b", 7),
    ("(^ a 2)", "a ^ 2", 8),
    ("(^ a -2)", "a ^ -2", 8),
    ("(f a)", "f a", 9),
    ("(fst a)", "fst a", 9),
    ("(snd a)", "snd a", 9),
    ("(root a)", "root a", 9),
    ("(floor a b)", "floor a b", 9),
    ("(rest a b)", "rest a b", 9),
    ("(fold f z l)", "fold f z l", 9),
)

# Where a term may stand: the core text and the surface text around it, and the rank at which it is shown.
PLACES = (
    ("@", "@", 0),
    ("(fn y (f @))", "fun y -> f @", 10),
    ("(rec g y (< @ 1))", "rec g y -> @ < 1", 5),
    ("(if @ 1 2)", "if @ then 1 else 2", 0),
    ("(if 1 @ 2)", "if 1 then @ else 2", 0),
    ("(if 1 2 @)", "if 1 then 2 else @", 0),
    ("(let y 1 @)", "let y = 1 in @", 0),
    ("(case @ 1 h t 2)", "match @ with [] -> 1 | h :: t -> 2", 0),
    ("(case 1 @ h t 2)", "match 1 with [] -> @ | h :: t -> 2", 0),
    ("(case 1 2 h t @)", "match 1 with [] -> 2 | h :: t -> @", 0),
    ("(< @ 1)", "@ < 1", 5),
    ("(< 1 @)", "1 < @", 5),
    ("(= @ 1)", "@ = 1", 5),
    ("(= 1 @)", "1 = @", 5),
    ("(cons @ y)", "@ :: y", 6),
    ("(cons @ nil)", "[@]", 0),
    ("(cons 1 (cons @ nil))", "[1, @]", 0),
    ("(+ @ 1)", "@ + 1", 6),
    ("(+ 1 @)", "1 + @", 7),
    ("(- @ 1)", "@ - 1", 6),
    ("(- 1 @)", "1 - @", 7),
    ("(* @ 1)", "@ * 1", 7),
    ("(* 1 @)", "1 * @", 8),
    ("(/ @ 1)", "@ / 1", 7),
    ("(/ 1 @)", "1 / @", 8),
    ("(^ @ 3)", "@ ^ 3", 8),
    ("(@ y)", "@ y", 9),
    ("(f @)", "f @", 10),
    ("(fst @)", "fst @", 10),
    ("(snd @)", "snd @", 10),
    ("(root @)", "root @", 10),
    ("(floor @ 1)", "floor @ 1", 10),
    ("(floor 1 @)", "floor 1 @", 10),
    ("(rest @ 1)", "rest @ 1", 10),
    ("(rest 1 @)", "rest 1 @", 10),
    ("(fold @ 1 2)", "fold @ 1 2", 10),
    ("(fold 1 @ 2)", "fold 1 @ 2", 10),
    ("(fold 1 2 @)", "fold 1 2 @", 10),
    ("(pair @ 1)", "(@, 1)", 0),
)


class Cases(unittest.TestCase):
    def hold(self, cases):
        for text, found in cases.items():
            self.assertEqual(show(text), found, text)
            if isinstance(found, str):
                self.assertEqual(read(found), text)


class Examples(Cases):
    def test_of_the_document(self):
        self.hold({
            "(let f (fn x (fn y (+ x (* 2 y)))) ((f 1) -3))": "let f x y = x + 2 * y in f 1 (-3)",
            "(- a (- b c))": "a - (b - c)",
            "(cons 1 (cons 2 nil))": "[1, 2]",
            "(cons 1 (cons 2 x))": "1 :: 2 :: x",
            "(^ (- 2 x) 2)": "(2 - x) ^ 2",
            "(/ 3 4)": "3 / 4",
            "3/4": "3/4",
        })

    def test_the_answer_is_zero_and_the_bytes(self):
        self.assertEqual(terms.show(data("(+ a 01)")), [0, 97, 32, 43, 32, 49])


class Ranks(unittest.TestCase):
    def test_each_kind_in_each_place(self):
        for core, surface, rank in KINDS:
            for around, shown, least in PLACES:
                whole = around.replace("@", core)
                expected = shown.replace("@", "(" + surface + ")" if rank < least else surface)
                self.assertEqual(show(whole), expected, whole)
                self.assertEqual(read(expected), whole)

    # Where what stands there may join what is around it: (let x @ b), the body of a function, the second of a
    # list or a pair.
    def test_places_that_some_kinds_join(self):
        for core, surface, rank in KINDS:
            if core[:3] != "(fn":
                self.assertEqual(show("(fn y " + core + ")"), "fun y -> " + surface)
                self.assertEqual(show("(rec g y " + core + ")"), "rec g y -> " + surface)
                self.assertEqual(show("(let y " + core + " 1)"), "let y = " + surface + " in 1")
            if core[:5] != "(cons" and core != "nil":
                tail = "(" + surface + ")" if rank < 5 else surface
                self.assertEqual(show("(cons 1 " + core + ")"), "1 :: " + tail)
            if core[:5] != "(pair":
                self.assertEqual(show("(pair 1 " + core + ")"), "(1, " + surface + ")")


class Joined(Cases):
    def test_functions_of_several_names(self):
        self.hold({
            "(fn x (fn y (fn z x)))": "fun x y z -> x",
            "(fn x (fn x x))": "fun x x -> x",
            "(fn x (rec f y (fn z x)))": "fun x -> rec f y z -> x",
            "(rec f x (fn y (fn z f)))": "rec f x y z -> f",
            "(rec f x (rec g y x))": "rec f x -> rec g y -> x",
            "(rec f f f)": "rec f f -> f",
            "(fn x (let y 1 (fn z x)))": "fun x -> let y = 1 in fun z -> x",
            "(fn x (f (fn y x)))": "fun x -> f (fun y -> x)",
            "((fn x (fn y x)) z)": "(fun x y -> x) z",
        })

    def test_let(self):
        self.hold({
            "(let f (fn x x) f)": "let f x = x in f",
            "(let f (fn x (fn y x)) (fn z f))": "let f x y = x in fun z -> f",
            "(let f (rec f x x) f)": "let rec f x = x in f",
            "(let f (rec f f f) f)": "let rec f f = f in f",
            "(let f (rec f x (fn y (fn z x))) f)": "let rec f x y z = x in f",
            "(let f (rec g x x) f)": "let f = rec g x -> x in f",
            "(let f (rec g f x) f)": "let f = rec g f -> x in f",
            "(let f (rec g x (fn y x)) f)": "let f = rec g x y -> x in f",
            "(let f (fn y (rec f x x)) f)": "let f y = rec f x -> x in f",
            "(let f (rec f x (rec f y x)) f)": "let rec f x = rec f y -> x in f",
            "(let x (let y 1 y) (let z 2 z))": "let x = let y = 1 in y in let z = 2 in z",
            "(let x (= a b) x)": "let x = a = b in x",
            "(+ (let x 1 x) (let y 2 y))": "(let x = 1 in x) + (let y = 2 in y)",
        })

    def test_lists(self):
        self.hold({
            "nil": "[]",
            "(cons nil nil)": "[[]]",
            "(cons 1 (cons 2 (cons 3 nil)))": "[1, 2, 3]",
            "(cons (cons 1 nil) (cons nil nil))": "[[1], []]",
            "(cons (cons 1 x) nil)": "[1 :: x]",
            "(cons (cons 1 x) y)": "(1 :: x) :: y",
            "(cons (cons 1 nil) y)": "[1] :: y",
            "(cons 1 (cons (cons 2 nil) x))": "1 :: [2] :: x",
            "(cons 1 (cons 2 (f nil)))": "1 :: 2 :: f []",
            "(cons (if a b c) (cons (fn x x) (cons (let x 1 x) nil)))":
                "[if a then b else c, fun x -> x, let x = 1 in x]",
            "(cons (case l a h t b) nil)": "[match l with [] -> a | h :: t -> b]",
            "(cons (pair 1 2) nil)": "[(1, 2)]",
            "(cons -1 (cons (< a b) nil))": "[-1, a < b]",
            "(cons 1 (if a nil nil))": "1 :: (if a then [] else [])",
            "(f (cons 1 nil))": "f [1]",
            "(5 (cons m nil))": "5 [m]",
            "(5[m] (cons m nil))": "5[m] [m]",
            "(f (cons 1 x))": "f (1 :: x)",
            "(^ (cons 1 nil) 2)": "[1] ^ 2",
        })

    def test_pairs(self):
        self.hold({
            "(pair a (pair b c))": "(a, b, c)",
            "(pair (pair a b) c)": "((a, b), c)",
            "(pair (pair a b) (pair c d))": "((a, b), c, d)",
            "(pair (if a b c) (pair (fn x x) (let x 1 x)))": "(if a then b else c, fun x -> x, let x = 1 in x)",
            "(pair a (cons b nil))": "(a, [b])",
            "(pair -1 -2)": "(-1, -2)",
            "(f (pair a b))": "f (a, b)",
            "((pair a b) c)": "(a, b) c",
        })

    def test_match_within_match(self):
        self.hold({
            "(case l (case m 1 a b 2) h t 3)": "match l with [] -> match m with [] -> 1 | a :: b -> 2 | h :: t -> 3",
            "(case (case m 1 a b 2) 3 h t 4)":
                "match match m with [] -> 1 | a :: b -> 2 with [] -> 3 | h :: t -> 4",
            "(case l 1 h h (case m 2 a b 3))": "match l with [] -> 1 | h :: h -> match m with [] -> 2 | a :: b -> 3",
        })

    def test_operands_from_left_and_right(self):
        self.hold({
            "(- (- a b) c)": "a - b - c",
            "(+ a (- b c))": "a + (b - c)",
            "(/ (* a b) c)": "a * b / c",
            "(* a (/ b c))": "a * (b / c)",
            "(* (+ a b) (- c d))": "(a + b) * (c - d)",
            "(^ (^ a 2) -1)": "a ^ 2 ^ -1",
            "(* (^ a 2) (^ b 3))": "a ^ 2 * b ^ 3",
            "(^ (f a) 2)": "f a ^ 2",
            "(f (^ a 2))": "f (a ^ 2)",
            "(((f a) b) c)": "f a b c",
            "(f (a b))": "f (a b)",
            "((fst p) x)": "fst p x",
            "(fst (p x))": "fst (p x)",
            "(fst (fst p))": "fst (fst p)",
            "((fold f z l) x)": "fold f z l x",
            "(< (cons a b) (+ c d))": "a :: b < c + d",
            "(= (< a b) (= c d))": "(a < b) = (c = d)",
            "(if (if a b c) (if a b c) (if a b c))":
                "if if a then b else c then if a then b else c else if a then b else c",
        })

    def test_numbers_below_zero(self):
        self.hold({
            "-3": "-3",
            "(-3 x)": "-3 x",
            "(x -3)": "x (-3)",
            "(- -1 -2)": "-1 - -2",
            "(* -1 -2[m])": "-1 * -2[m]",
            "(^ -3 2)": "-3 ^ 2",
            "(cons -1 -2)": "-1 :: -2",
            "(fst -1/2)": "fst (-1/2)",
            "(floor -7 -2)": "floor (-7) (-2)",
            "(floor 7 2)": "floor 7 2",
            "(f 5[m])": "f 5[m]",
        })
        self.assertEqual(show("(f -0)"), "f 0")
        self.assertEqual(show("(f -0[m])"), "f 0[m]")
        self.assertEqual(show("(/ 06/4 -1.50[s])"), "3/2 / -3/2[s]")
        self.assertEqual(show("(^ x -0)"), "x ^ 0")

    def test_what_read_makes_of_words_and_signs_is_shown_as_core_has_it(self):
        self.hold({
            "(if a true b)": "if a then true else b",
            "(if (< b a) false true)": "if b < a then false else true",
        })


def bracket_pairs(text):
    """The places of each ( and its ), but for those that have a comma of their own."""
    found, opened = [], []
    for place, sign in enumerate(text):
        if sign in "([":
            opened.append([place, False])
        elif sign == ",":
            opened[-1][1] = True
        elif sign in ")]":
            begin, commas = opened.pop()
            if sign == ")" and not commas:
                found.append((begin, place))
    return found


class MadeUp(unittest.TestCase):
    def test_as_the_rules_say_and_read_back(self):
        for term in many_terms(2000, seed=2):
            text = core_of(term)
            shown = ranked(term)
            self.assertEqual(show(text), shown if len(shown) <= 2000 else [-4], text)
            self.assertEqual(read(shown), text)

    def test_each_bracket_is_needed(self):
        met = 0
        for term in many_terms(250, seed=3):
            text = core_of(term)
            shown = show(text)
            for begin, end in bracket_pairs(shown):
                without = shown[:begin] + " " + shown[begin + 1:end] + " " + shown[end + 1:]
                self.assertNotEqual(read(without), text, without)
                met += 1
        self.assertGreater(met, 300)

    def test_deep_terms(self):
        for form, term in deep_terms("-1"):
            text, shown = core_of(term), ranked(term)
            self.assertEqual(show(text), shown if len(shown) <= 2000 else [-4], form)
            if len(shown) <= 2000:
                self.assertEqual(read(shown), text, form)

    def test_300_nodes(self):
        shown = show(core_tree(150))
        self.assertEqual(read(shown).replace("+ ", "+").replace(" (", "(").replace(") ", ")"), core_tree(150))


class LongAnswers(unittest.TestCase):
    def test_two_thousand_bytes_and_one_more(self):
        lead, rest = "let x = 1 in if true then ", " else fun y -> y"
        for length in (1999, 2000, 2001, 2002):
            number = measured(length - len(lead + rest))
            text = "(let x 1 (if true " + number + " (fn y y)))"
            self.assertLess(len(text), 2000)
            self.assertEqual(show(text), lead + number + rest if length <= 2000 else [-4])

    def test_faults_come_before_it(self):
        number = measured(1970)
        self.assertEqual(show("(case l a h t " + number + ")"), [-4])
        self.assertEqual(show("(case l a h t " + number + "))"), [6, 1985])
        self.assertEqual(show("(case l a h t " + number), [6, 1984])


class Faults(unittest.TestCase):
    def test_as_for_core(self):
        for text, found in CORE_FAULTS.items():
            self.assertEqual(show(text), found, text)
            self.assertEqual(core(text), found, text)

    def test_two_thousand_bytes_and_one_more(self):
        self.assertEqual(show("x" + " " * 1999), "x")
        self.assertEqual(show("x" + " " * 2000), [-1])
        self.assertEqual(show(measured(2000)), measured(2000))
        self.assertEqual(show(measured(2001)), [-1])
        self.assertEqual(show("?" * 2001), [-1])
        self.assertEqual(show("(" * 2000), [8, 40])
        self.assertEqual(show("(" * 10000), [-1])


class Calls(unittest.TestCase):
    def test_what_is_handed_in_stays_and_nothing_is_kept(self):
        for text in ("(let x 5[m] (fn y (- x -1)))", "(+ 1", "", "?", core_tree(151), " " * 2001):
            call_twice(self, terms.show, data(text))


if __name__ == "__main__":
    unittest.main()
