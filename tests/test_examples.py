"""The examples of DOC.md, word for word."""

import doctest
import unittest

STAGE_1 = """
>>> from surepipes.amounts import Amount
>>> from surepipes.curves import Curve
>>> [str(Amount(6, -4)), 1 - Amount(1, 3) * 2 == Amount(1, 3), Amount(1, 2) < Amount(2, 3), str(Amount.sum_of(1, Amount(1, 2)))]
['-3/2', True, True, '3/2']
>>> wide, bent = Curve.straight(2), Curve([(1, 1), (2, 4)])
>>> [str(wide(3)), str(bent(-1)), str(bent(3)), str((wide + bent)(2)), str((wide | bent).back(1))]
['3/2', '-1', '7', '5', '3']
"""


class Examples(unittest.TestCase):
    def run_example(self, name, text):
        test = doctest.DocTestParser().get_doctest(text, {}, name, None, 0)
        said = []
        result = doctest.DocTestRunner(verbose=False).run(test, out=said.append)
        self.assertGreater(result.attempted, 0)
        self.assertEqual(result.failed, 0, "".join(said))

    def test_stage_1(self):
        self.run_example("stage 1", STAGE_1)


if __name__ == "__main__":
    unittest.main()
