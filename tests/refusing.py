"""How tests look at refusals."""

import unittest

from rulestable.errors import TableError


class Refusing(unittest.TestCase):

    def refuses(self, kind, field, kept, ask, *told):
        """Asking is refused by just this class, which keeps this very thing, or this number or text."""
        try:
            answer = ask(*told)
        except TableError as refusal:
            self.assertIs(type(refusal), kind)
            found = getattr(refusal, field)
            if type(kept) in (int, str):
                self.assertIs(type(found), type(kept))
                self.assertEqual(found, kept)
            else:
                self.assertIs(found, kept)
        else:
            self.fail(f"{type(answer)} told in the place of {kind.__name__}")
