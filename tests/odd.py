"""Values of every kind that a certificate may be, and ways to spoil one."""

ODD_VALUES = [
    None, True, False, 0, 1, -1, 10 ** 30, "", "holds", "fails", "a", "ab", " ", "\n", [], (), [[]], ((),), [()], ([],),
    ["holds"], ("holds",), ("fails",), ("holds", None), ("holds", True), ("holds", 0), ("holds", "a"), ("holds", []),
    ("holds", ()), ("holds", [[]]), ("holds", [()]), ("holds", [None]), ("holds", [True]), ("holds", ["a"]),
    ("holds", [[], ()]), ("holds", [((), [])]), ("holds", [(0,)]), ("holds", [(0, 0)]), ("holds", [(0, 0, 0, 0)]),
    ("holds", [], []), ("holds", "holds"), ("fails", None), ("fails", True), ("fails", 0), ("fails", []), ("fails", ()),
    ("fails", ["a"]), ("fails", ("a",)), ("fails", "a", "a"), ("fails", "", "", 0), ("fails", None, "", 0, ""),
    ("fails", "", None, 0, ""), ("fails", "", "", None, ""), ("fails", "", "", 0, None), ("fails", 0, 0, 0, 0),
    ("fails", [], [], [], []), ("fails", ["a"], "a", 1, "a"), ("fails", "a", ["a"], 1, "a"), ("fails", "a", ("a",), 1, ""),
    ("fails", "a", "", "1", ""), ("fails", "a", "", [1], ""), ("fails", "a", "", (1,), ""), ("fails", "", "", 0, "", ""),
    ("fails", "?", "", 0, ""), ("fails", "", "?", 0, ""), ("fails", "", "", 0, "?"), (None, []), (True, []), (1, []),
    ([], []), ((), ()), (["holds"], []), (("holds",), []), ("Holds", []), ("holds ", []), ("", []),
    [("holds", [])], (("holds", []),), [[[[[[[]]]]]]], ((((((),),),),),), ("holds", [[[[[0]]]]]),
    ("holds", [((((0,),),),)]), ("fails", [[["a"]]]), ("fails", (("a", ("b",)),)),
]


def spoilt_numbers(number):
    """Return values of other kinds that might pass for a number."""
    values = [None, str(number), [number], (number,), [], ""]
    if number in (0, 1):
        values.append(bool(number))
    return values


def replaced(values, at, value):
    """Return a list or a tuple with another value at an index."""
    return type(values)(list(values[:at]) + [value] + list(values[at + 1:]))


def spoilt_lists(numbers):
    """Return values that are no list with as many integers as this one has, one for each way to be none."""
    found = [tuple(numbers), None, True, 0, "", "0", [list(numbers)], numbers + [0], numbers + [numbers[-1]],
             numbers[:-1], [], [0] + numbers]
    for at, number in enumerate(numbers):
        found.extend([replaced(numbers, at, value) for value in spoilt_numbers(number)])
    return found
