"""Values of every kind, for functions that judge any value."""


def nested(depth):
    """Return tuples, lists and dicts, one in the other, so deep."""
    value = None
    for number in range(depth):
        value = [(value,), [value], {"in": value}][number % 3]
    return value


# None of these is a name, a subject, a message or a condition.
OTHER_VALUES = (
    0, 1, -1, 37, 10 ** 59, -(10 ** 59), True, False, None,
    (), (1,), ("a",), ("a", "b"), (None, None), ((), ()), ([], []), ({}, {}), (True, "a"), ("a", "b", "c"),
    ("a", "b", "c", "d"), ("a", "b", "c", "d", "e"), (0, 1, 2, 3), ([], {}, (), None),
    [], ["a"], ["a", "b"], ["ann", "box", "hi", ()], ["marked", "a"], [[]], [1, True, None],
    {}, {"a": 1}, {"marked": "a"}, {0: "ann", 1: "box", 2: "hi", 3: ()}, {(): []},
    b"a", 1.5, ValueError("a"), object(), nested(3), nested(100), (nested(98), nested(97)),
)

# Strings that are no names, subjects among them.
OTHER_STRINGS = (
    "", " ", "A", "aB", "a b", " a", "a ", "a\n", "\na", "a1", "1", "a_", "_", "a-b", "a.b", "`", "{", "@", "[",
    "\u00e9", "a\u00e9", "\u0430", "\uff41", "\ud800", "a\x00", "\x7f", "\u00aa", "abcdefghijklm", "a" * 13, "a" * 1000,
)
