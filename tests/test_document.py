r"""All examples of the document, in its order: a later one may use what an earlier one has made.

## 1. Overview

    >>> from poisonruns.deciding import heals, many, outlook, poisons
    >>> from poisonruns.evidence import Evidence
    >>> text = ["tests a b c", "things 1 slips 0", "a b!", "b | a", "a c b"]
    >>> seen = Evidence.read("\n".join(text))
    >>> many(seen), outlook(seen, [["c", "a", "b"], ["c"]])
    (12, (('open', 'passes', 'fails'), ('open',)))
    >>> poisons(seen), heals(seen)
    ((('a', 'b'),), ())

## 5. Tables (module `tables`)

    >>> from poisonruns.tables import Table
    >>> table = Table({"a": [("sets", "never")], "b": [("leaves", "on")], "c": [("clears", "off")]})
    >>> str(table.play([["a", "b", "c", "b"], ["c"]])), table.poisons("a", "b"), table.heals("a", "c"), table.heals("c", "c")
    ('a b! c b | c!', True, True, False)

## 7. What is sure (module `deciding`)

    >>> from poisonruns.deciding import free, may_poison, parting, surely
    >>> surely(seen, [["b"], ["a", "c"]]), surely(seen, [["b", "a"]]), parting(seen, [["a", "b"]]), free(seen)
    (True, False, None, ())
    >>> may_poison(seen) == poisons(seen), sorted([str(table).split("\n")[2] for table in parting(seen, [["c"]])])
    (False, ['c clears never', 'c clears off'])

## 8. Papers (module `papers`)

    >>> from poisonruns.papers import impossible, impossible_holds, sure, sure_holds
    >>> torn = Evidence.read("tests a\nthings 1 slips 0\na!\na")
    >>> tree = impossible(torn)
    >>> tree is None, impossible_holds(torn, tree), impossible(seen), sure_holds(seen, [["a", "b"]], 0, 1, "fails", ("so",))
    (False, True, None, False)

## 9. Orders (module `orders`)

    >>> from poisonruns.orders import apart, clearings, near, safe_order
    >>> safe_order(seen), clearings(seen, ["a", "b"]), apart(seen, 2), len(near(["a", "b", "c"]))
    (('a', 'c', 'b'), (1,), (('a', 'c'), ('b',)), 4)

## 11. Asking (module `asking`)

    >>> from poisonruns.asking import best_row
    >>> from poisonruns.blame import chance, conflict, least_slips
    >>> best_row(seen, 2), least_slips(torn), conflict(torn), chance(torn), conflict(seen)
    ((('c',), 6), 1, (0, 1), (), None)
"""

import doctest
import sys
import unittest


class Examples(unittest.TestCase):
    def test_examples(self):
        result = doctest.testmod(sys.modules[__name__])
        self.assertEqual(result.attempted, 21)
        self.assertEqual(result.failed, 0)
