"""How tests look at mends: whether all that one tells goes together."""

import unittest

from rulestable.costs import is_below, price_of
from rulestable.mending import Mend
from tests.growing import go_down, row_of
from tests.paying import added_up, own_costs, own_price_of


class Mending(unittest.TestCase):

    def goes_together(self, grammar, row, prices, told):
        """Deeds, price, row, tree and costs are one mend's: by the test's own looking, and by the package's."""
        self.assertIs(type(told), Mend)
        self.assertIs(type(told.price()), int)
        go_down(self, grammar.rules, grammar.start, told.answer())
        self.assertEqual(row_of(told.answer()), told.mended())
        for deed in told.deeds():
            self.assertIs(type(deed), tuple)
        self.assertEqual([sign for word, sign in told.deeds() if word in ("keep", "out")], row)
        self.assertEqual([sign for word, sign in told.deeds() if word in ("keep", "put")], told.mended())
        self.assertEqual(added_up(prices, told.deeds()), told.price())
        self.assertEqual(own_price_of(grammar.rules, row, prices, told.deeds(), told.answer()), told.price())
        self.assertEqual(price_of(grammar, row, prices, told.deeds(), told.answer()), told.price())
        self.assertEqual(told.costs(), own_costs(grammar.rules, row, prices))
        self.assertIs(is_below(grammar, row, prices, told.costs()), True)
        self.assertIn((grammar.start, 0, len(row), told.price()), told.costs())
