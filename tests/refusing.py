"""How tests look at refusals, and at lists that are told."""

import unittest

from rulestable.errors import TableError


class Refusing(unittest.TestCase):

    def refuses(self, kind, field, kept, ask, *told):
        """Asking is refused by just this class, which keeps this very thing, or this number or text."""
        try:
            answer = ask(*told)
        except TableError as refusal:
            self.assertIs(type(refusal), kind)
            found = getattr(refusal, field)
            if type(kept) in (int, str):
                self.assertIs(type(found), type(kept))
                self.assertEqual(found, kept)
            else:
                self.assertIs(found, kept)
        else:
            self.fail(f"{type(answer)} told in the place of {kind.__name__}")


def outcome(ask, *told):
    """What is told, or the class of the refusal and all that it keeps."""
    try:
        return "told", ask(*told)
    except TableError as refusal:
        return type(refusal), vars(refusal)


def spoil(case, *tells):
    """Change each list that is told; fail where one is told twice."""
    for tell in tells:
        case.assertIsNot(tell(), tell())
        told = tell()
        for inner in told:
            if type(inner) is list:
                inner.append(9)
        told.append([0])
        told.reverse()
        tell().clear()
