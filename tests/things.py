"""Things of all kinds, for every place where the document says "whatever it is" or "of any thing"."""


class EqualToAll:
    """A thing that calls itself equal to every other, and can't be a key."""

    __hash__ = None

    def __eq__(self, other):
        return True


def list_in_itself():
    told = []
    told.append(told)
    return told


def deep_list():
    """So deep that it can't be shown or compared."""
    told = []
    for turn in range(100000):
        told = [told]
    return told


def other_things():
    """New things that are no texts, whole numbers or truths."""
    return [
        None, 0.0, 1.0, 1.5, 1j, b"", b"a", b"E",
        [], [0], ["a"], ["E"], [[]], list_in_itself(), deep_list(),
        (), (0,), ("a",), ("E",), ("E", ()), ([],), ({},), ("E", []), ([], []), (deep_list(),),
        {}, {"a": 1}, {"E": ()}, {0: "E"},
        set(), {"a"}, frozenset(), frozenset(["a"]),
        range(2), object(), EqualToAll(), len, str, int, lambda: "a",
    ]


def truths():
    return [True, False]


def far_numbers():
    """Whole numbers beyond all bounds of the document."""
    return [-10 ** 5000, -4001, -21, -2, -1, 41, 4001, 10 ** 30, 10 ** 5000]


def no_words():
    """Texts that are neither signs nor heads."""
    return [
        "", " ", "$", "|", ":", "~", "#", "a b", " a", "a ", "a\n", "\n", "aaaaaaa", "Aaaaaaa", "EE", "EeE", "aE",
        "E+", "_", "a_", "E_", "'", '"', "@", "`", "{", "}", "\\", chr(37), "\t", "\0", "\x7f",
        "\xe4", "A\xe4", "\xc4", "\xdf", "\xb2", "E\xb2", "\u0663", "E\u0663", "\uff41", "\u0430", "\u0410",
        "\ud800", "\U0001f600",
    ]


def all_things():
    """Things of all kinds, words and small numbers among them."""
    return other_things() + truths() + far_numbers() + no_words() + ["a", "E", "n", 0, 1, 2]


def no_rows(most):
    """Things that are no rows of at most so many signs."""
    told = [thing for thing in other_things() if type(thing) is not list or thing not in ([], ["a"])]
    told += truths() + far_numbers() + no_words()
    told += ["a", "ab", ("a",), ["a"] * (most + 1), ["a"] * 4000, ["S"], ["a", "S"], ["$"], ["a", "$"], [""], ["a", None],
             [True], [0], [["a"]], [("a",)], ["a"] * most + [0], ["a", "b", "aaaaaaa"], {"a": "a"}, "a" * most]
    told += [[word] for word in no_words()] + [["a", thing] for thing in other_things()]
    return told
