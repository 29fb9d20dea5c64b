"""What holds over the whole program, over many terms and texts."""

import json
import os
import pathlib
import random
import subprocess
import sys
import unittest

from derivation import many_derivations
from helper import (
    CORE_FAULTS, SURFACE_FAULTS, alike, core, core_tree, data, free, plain, put, read, show, size, stretches, tidy,
    tree,
)
from measuretext import terms
from model import core_of, free_of, many_terms

TOP = pathlib.Path(__file__).resolve().parent.parent
SURFACE = ["let f x = x ^ 2 in f 3[m] > 5", "[a, (b), 1.50]", "not a or b <> c", tree(150), *SURFACE_FAULTS]
CORE = [
    "(let f (fn x (^ x 2)) (< 5 (f 3[m])))", "(rec x x (v0 x))", "(case l a h t (h t))", core_tree(150), *CORE_FAULTS,
]
CALLS = (
    [(name, [data(text)]) for name in ("tokens", "read", "tidy") for text in SURFACE]
    + [(name, [number, data(text)]) for name in ("where", "at") for number in (0, 3, -1) for text in SURFACE]
    + [(name, [data(text)]) for name in ("core", "show", "free", "plain", "size") for text in CORE]
    + [("alike", [data(text), data(CORE[0])]) for text in CORE]
    + [("put", [data("a"), data(text), data(CORE[1])]) for text in CORE]
)
NAMES = sorted({name for name, handed in CALLS})


class Together(unittest.TestCase):
    def test_core_and_show_and_read(self):
        for term in many_terms(700, seed=11):
            text = core_of(term)
            shown = show(text)
            self.assertEqual(read(shown), text)
            self.assertEqual(tidy(shown), shown)
            self.assertEqual(core(text), text)
            if len(text) < 60:
                self.assertEqual(len(stretches(shown)), size(text)[1])

    def test_tidy_and_read(self):
        for derivation in many_derivations(250):
            said, found = read(derivation.text), tidy(derivation.text)
            if isinstance(said, str) and isinstance(found, str):
                self.assertEqual(show(said), found)
                self.assertEqual(read(found), said)
                self.assertEqual(core(said), said)
                self.assertEqual(tidy(found), found)
            else:
                self.assertTrue(said == found or [-4] in (said, found))

    def test_plain_and_free_and_alike_and_put(self):
        source = random.Random(12)
        for term in many_terms(500, seed=12, most=30):
            text = core_of(term)
            found = plain(text)
            self.assertEqual(plain(found), found)
            self.assertEqual(alike(text, found), [0, 1])
            self.assertEqual(free(found), free(text))
            self.assertEqual(size(found), size(text))
            self.assertEqual(put("notthere", text, "1"), found)
            for name in free_of(term)[:2]:
                self.assertEqual(put(name, text, name), found)
                other = source.choice(["1", "(fn x x)", "(v0 v1)"])
                if put(name, text, other) != [-4]:
                    rest = [one for one in free(text) if one != name]
                    self.assertEqual(sorted(free(put(name, text, other))), sorted({*rest, *free(other)}))


class CallAfterCall(unittest.TestCase):
    def test_the_names_of_the_interface(self):
        for name in ("tokens read core show tidy where at free plain alike put size").split():
            self.assertTrue(callable(getattr(terms, name)), name)
            self.assertIn(name, NAMES)

    def test_as_if_for_the_first_time(self):
        """Each call in an interpreter in which no other function was called, then here behind each other function."""
        firsts = {}
        for name in NAMES:
            handed = [arguments for called, arguments in CALLS if called == name]
            firsts[name] = answers_alone(name, handed)
        for name in NAMES:
            handed = [arguments for called, arguments in CALLS if called == name]
            for other in NAMES:
                for called, arguments in CALLS:
                    if called == other:
                        getattr(terms, called)(*arguments)
                        break
                self.assertEqual([getattr(terms, name)(*arguments) for arguments in handed[:8]], firsts[name][:8])
            self.assertEqual([getattr(terms, name)(*arguments) for arguments in handed], firsts[name])

    def test_in_any_order(self):
        source = random.Random(13)
        answers = [getattr(terms, name)(*arguments) for name, arguments in CALLS]
        order = list(range(len(CALLS)))
        source.shuffle(order)
        for number in order:
            name, arguments = CALLS[number]
            self.assertEqual(getattr(terms, name)(*arguments), answers[number], name)


def answers_alone(name, handed):
    program = (
        "import json, sys; from measuretext import terms; "
        f"json.dump([terms.{name}(*arguments) for arguments in json.load(sys.stdin)], sys.stdout)"
    )
    done = subprocess.run([sys.executable, "-c", program], input=json.dumps(handed), capture_output=True, text=True,
                          check=True, env={**os.environ, "PYTHONPATH": str(TOP)})
    return json.loads(done.stdout)


if __name__ == "__main__":
    unittest.main()
