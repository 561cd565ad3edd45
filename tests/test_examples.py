"""Point 129: the examples, as they stand in the document."""

import doctest
import unittest

EXAMPLES = """
>>> from rodwebs.webs import Web
>>> from rodwebs.runs import echo
>>> web = Web(["level", "level"], [(0, 1, 1, 1)], [(0, 3)])
>>> [str(x) for x in echo(web, 5)]
['1/2', '0', '3/4', '0', '-3/8']
>>> from rodwebs.peeling import pile_of
>>> pile = pile_of(web)
>>> [[str(c) for c in pile.panes], pile.end]
[['1/2', '0'], 1]

>>> from rodwebs.webs import Web
>>> from rodwebs.alike import alike
>>> from rodwebs.heardparts import silent
>>> two = Web(["level", "level", "level"], [(0, 1, 1, 1), (0, 2, 1, 1)], [(0, 1)])
>>> one = Web(["level", "level"], [(0, 1, 1, 2)], [(0, 1)])
>>> [alike(two, one), len(silent(two)), len(silent(one))]
[True, 2, 0]

>>> from rodwebs.webs import Web
>>> web = Web(["level", "stream"], [(0, 1, 1, 2)], [(0, 1)])
>>> state, heard = web.tick([0, 3], [1])
>>> [[str(x) for x in state], [str(x) for x in heard]]
[['5/3', '0'], ['11/3']]
>>> old, knocks = web.back(state, heard)
>>> [[str(x) for x in old], [str(x) for x in knocks]]
[['0', '3'], ['1']]
"""


class Examples(unittest.TestCase):
    def test_examples(self):
        test = doctest.DocTestParser().get_doctest(EXAMPLES, {}, "examples", None, 0)
        result = doctest.DocTestRunner().run(test)
        self.assertEqual(result.failed, 0)
        self.assertGreater(result.attempted, 10)


if __name__ == "__main__":
    unittest.main()
