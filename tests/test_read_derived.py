"""What read says of texts made by the rules at random."""

import unittest

from derivation import many_derivations
from helper import data
from measuretext import terms
from model import core_of


class Derived(unittest.TestCase):
    def test_read_says_the_term(self):
        met = {}
        for derivation in many_derivations(3000):
            answer = derivation.fault()
            if answer is None:
                core = core_of(derivation.node.term())
                answer = [0] + data(core) if len(core) <= 2000 else [-4]
            self.assertEqual(terms.read(data(derivation.text)), answer, derivation.text)
            met[answer[0]] = met.get(answer[0], 0) + 1
        for first in (0, 7, 8, 9):
            self.assertGreater(met.get(first, 0), 50, met)


if __name__ == "__main__":
    unittest.main()
