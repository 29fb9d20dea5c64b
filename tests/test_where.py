import unittest

from derivation import many_derivations
from helper import SURFACE_FAULTS, call_twice, data, measured, read, stretches, tree, where
from measuretext import terms


def marked(text, *nodes):
    """The stretches that are told by their beginnings and their texts."""
    found = []
    for begin, piece in nodes:
        assert text[begin:begin + len(piece)] == piece, (text, begin, piece)
        found.append((begin, len(piece)))
    return found


class Nodes(unittest.TestCase):
    def hold(self, text, *nodes):
        self.assertEqual(stretches(text), marked(text, *nodes), text)


class Example(Nodes):
    def test_of_the_document(self):
        text = "f (x) <= [1]"
        found = [(0, 12), (0, 12), (9, 3), (10, 1), (9, 3), (0, 5), (0, 1), (3, 1), (0, 12), (0, 12)]
        for node, (begin, length) in enumerate(found):
            self.assertEqual(where(node, text), [0, begin, length], node)
        self.assertEqual(where(10, text), [-2])
        self.assertEqual(where(-1, text), [-2])


class Expressions(Nodes):
    def test_functions(self):
        text = "fun x y -> x"
        self.hold(text, (0, text), (0, text), (11, "x"))
        text = " rec f x y z -> (f)"
        whole = text[1:]
        self.hold(text, (1, whole), (1, whole), (1, whole), (17, "f"))
        text = "fun x -> fun y -> x"
        self.hold(text, (0, text), (9, "fun y -> x"), (18, "x"))

    def test_let(self):
        text = "let x = 1 in x"
        self.hold(text, (0, text), (8, "1"), (13, "x"))
        text = "let f x y = (1) in (f) "
        whole = text[:-1]
        self.hold(text, (0, whole), (0, whole), (0, whole), (13, "1"), (20, "f"))
        text = "let rec f x y = x in f"
        self.hold(text, (0, text), (0, text), (0, text), (16, "x"), (21, "f"))
        text = "let f = rec f x -> x in f"
        self.hold(text, (0, text), (8, "rec f x -> x"), (19, "x"), (24, "f"))

    def test_if_and_match(self):
        text = "if (a) then b else c d"
        self.hold(text, (0, text), (4, "a"), (12, "b"), (19, "c d"), (19, "c"), (21, "d"))
        text = "match l with [] -> (a) | h :: t -> (b)"
        self.hold(text, (0, text), (6, "l"), (20, "a"), (36, "b"))


class Operators(Nodes):
    def test_or_and_not(self):
        text = "a or b or (c)"
        self.hold(text, (0, text), (0, "a"), (0, text), (5, "b or (c)"), (5, "b"), (5, "b or (c)"), (11, "c"))
        text = "a and b and c"
        self.hold(text, (0, text), (0, "a"), (6, "b and c"), (6, "b"), (12, "c"), (6, "b and c"), (0, text))
        text = "not  not a"
        inner = (5, "not a")
        self.hold(text, (0, text), inner, (9, "a"), inner, inner, (0, text), (0, text))

    def test_compare(self):
        text = "a < (b)"
        self.hold(text, (0, text), (0, "a"), (5, "b"))
        text = "(a) = b"
        self.hold(text, (0, text), (1, "a"), (6, "b"))
        text = "(a) > b"
        self.hold(text, (0, text), (6, "b"), (1, "a"))
        text = "(a) <= b"
        self.hold(text, (0, text), (0, text), (7, "b"), (1, "a"), (0, text), (0, text))
        text = "(a) >= b"
        self.hold(text, (0, text), (0, text), (1, "a"), (7, "b"), (0, text), (0, text))
        text = "(a) <> b"
        self.hold(text, (0, text), (0, text), (1, "a"), (7, "b"), (0, text), (0, text))

    def test_consing(self):
        text = "(a) :: b :: c"
        self.hold(text, (0, text), (1, "a"), (7, "b :: c"), (7, "b"), (12, "c"))

    def test_rounds_of_a_sum_and_a_product(self):
        text = "(a) - b + (c)"
        self.hold(text, (0, text), (0, "(a) - b"), (1, "a"), (6, "b"), (11, "c"))
        text = "((a)) * b / (c)"
        self.hold(text, (0, text), (0, "((a)) * b"), (2, "a"), (8, "b"), (13, "c"))
        text = "a + b * c + d"
        self.hold(text, (0, text), (0, "a + b * c"), (0, "a"), (4, "b * c"), (4, "b"), (8, "c"), (12, "d"))
        text = "a - (b - c)"
        self.hold(text, (0, text), (0, "a"), (5, "b - c"), (5, "b"), (9, "c"))

    def test_rounds_of_a_power_and_an_apply(self):
        text = "(a) ^ 2 ^ - 1"
        self.hold(text, (0, text), (0, "(a) ^ 2"), (1, "a"))
        text = "(f) (a) b [c]"
        self.hold(text, (0, text), (0, "(f) (a) b"), (0, "(f) (a)"), (1, "f"), (5, "a"), (8, "b"),
                  (10, "[c]"), (11, "c"), (10, "[c]"))
        text = "((f a)) b"
        self.hold(text, (0, text), (2, "f a"), (2, "f"), (4, "a"), (8, "b"))

    def test_heads(self):
        text = "fst (p) x"
        self.hold(text, (0, text), (0, "fst (p)"), (5, "p"), (8, "x"))
        for word in ("snd", "root"):
            text = word + " p"
            self.hold(text, (0, text), (len(text) - 1, "p"))
        text = "floor (a) b c"
        self.hold(text, (0, text), (0, "floor (a) b"), (7, "a"), (10, "b"), (12, "c"))
        text = " rest a (b)"
        self.hold(text, (1, "rest a (b)"), (6, "a"), (9, "b"))
        text = "fold f z ((l))"
        self.hold(text, (0, text), (5, "f"), (7, "z"), (11, "l"))


class Atoms(Nodes):
    def test_leaves(self):
        for leaf in ("x", "abcdefghijkl", "true", "false", "12", "3/4", "0.50", "5[km]", "-3", "- 3", "-{}0.5[m]"):
            self.hold(" " + leaf + " ", (1, leaf))
            self.hold("((" + leaf + "))", (2, leaf))
        text = "a - - 1[m] x"
        self.hold(text, (0, text), (0, "a"), (4, "- 1[m] x"), (4, "- 1[m]"), (11, "x"))

    def test_brackets_with_commas(self):
        text = "(a, (b), c)"
        self.hold(text, (0, text), (1, "a"), (0, text), (5, "b"), (9, "c"))
        text = "((a, b), c)"
        self.hold(text, (0, text), (1, "(a, b)"), (2, "a"), (5, "b"), (9, "c"))
        text = "((a, b))"
        self.hold(text, (1, "(a, b)"), (2, "a"), (5, "b"))

    def test_lists(self):
        self.hold(" [ ] ", (1, "[ ]"))
        text = "[a, (b)]"
        self.hold(text, (0, text), (1, "a"), (0, text), (5, "b"), (0, text))
        text = "[[a], []]"
        self.hold(text, (0, text), (1, "[a]"), (2, "a"), (1, "[a]"), (0, text), (6, "[]"), (0, text))

    def test_brackets_round_a_single_expression(self):
        text = "(((a)) + ((b)))"
        self.hold(text, (1, "((a)) + ((b))"), (3, "a"), (11, "b"))
        text = "((fun x -> (x))) ((y))"
        self.hold(text, (0, text), (2, "fun x -> (x)"), (12, "x"), (19, "y"))

    def test_blanks_and_comments(self):
        text = "{c}\n a {d} + \n{e} ( {f} b ) {g}"
        whole = text[5:text.index(" {g}")]
        self.hold(text, (5, whole), (5, "a"), (text.index("b"), "b"))
        text = " {a} - {b} 3 {c} "
        self.hold(text, (5, "- {b} 3"))
        text = "f{}[ {} ]{}"
        self.hold(text, (0, "f{}[ {} ]"), (0, "f"), (3, "[ {} ]"))


class Derived(unittest.TestCase):
    def test_texts_made_by_the_rules(self):
        met = {}
        for derivation in many_derivations(500):
            answer = derivation.fault()
            if answer is None:
                answer = [0]
                found = derivation.stretches()
                # All nodes of short texts, some of long ones.
                for node in range(0, len(found), 1 + len(found) // 20):
                    self.assertEqual(where(node, derivation.text), [0, *found[node][:2]], (node, derivation.text))
            past = len(derivation.stretches()) if answer == [0] else 0
            self.assertEqual(where(past, derivation.text), [-2] if answer == [0] else answer)
            met[answer[0]] = met.get(answer[0], 0) + 1
        self.assertGreater(met[0], 250)


class NoSuchNode(unittest.TestCase):
    def test_numbers_beyond_the_nodes(self):
        for text, count in (("x", 1), ("a + b", 3), ("not a", 4), (tree(150), 299), ("fst " + tree(150), 300)):
            self.assertEqual(where(0, text)[0], 0)
            self.assertEqual(where(count - 1, text)[0], 0)
            for node in (count, count + 1, -1, -2, -count, 10 ** 18, -10 ** 18, 10 ** 18 - 1, 2 ** 31, -2 ** 31):
                self.assertEqual(where(node, text), [-2], (node, text))

    def test_a_long_core_text_is_no_matter(self):
        text = "not " * 39 + measured(1800)
        self.assertEqual(read(text), [-4])
        self.assertEqual(where(39, text), [0, 156, 1800])
        self.assertEqual(where(117, text), [0, 0, 1956])
        self.assertEqual(where(118, text), [-2])

    def test_faults_come_first(self):
        for text, found in SURFACE_FAULTS.items():
            for node in (0, 1, -1, 300, 10 ** 18, -10 ** 18):
                self.assertEqual(where(node, text), found, text)

    def test_texts_of_two_thousand_bytes_and_one_more(self):
        self.assertEqual(where(0, " " * 1999 + "x"), [0, 1999, 1])
        self.assertEqual(where(1, " " * 1999 + "x"), [-2])
        self.assertEqual(where(0, " " * 2000 + "x"), [-1])
        self.assertEqual(where(-1, " " * 2000 + "x"), [-1])
        self.assertEqual(where(0, measured(2000)), [0, 0, 2000])
        self.assertEqual(where(0, measured(2001)), [-1])
        self.assertEqual(where(0, "?" * 2000), [1, 0])
        self.assertEqual(where(0, "?" * 2001), [-1])
        self.assertEqual(where(10 ** 18, "?" * 10000), [-1])


class Calls(unittest.TestCase):
    def test_what_is_handed_in_stays_and_nothing_is_kept(self):
        for text in ("let x = (5[m]) in (x)", "x", " " * 2001, *SURFACE_FAULTS):
            for node in (0, 1, 2, 3, -1, 10 ** 18):
                call_twice(self, terms.where, node, data(text))


if __name__ == "__main__":
    unittest.main()
