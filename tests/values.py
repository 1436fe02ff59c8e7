"""Values of all the kinds that a caller may hand in, and a check that calls leave them alone."""

import copy


def nested(depth, wrap):
    value = 0
    for _ in range(depth):
        value = wrap(value)
    return value


ODD_VALUES = (
    None,
    True,
    False,
    -1,
    0,
    1,
    7,
    10 ** 400,
    -(10 ** 400),
    "",
    "0",
    "a=0;a",
    "\x00\u00e9\U0001f300\ud800",
    (),
    (0,),
    (True,),
    (None,),
    ("0",),
    ((),),
    ((0,),),
    ((False,),),
    ((0, 1), (-1, 0)),
    ((0, 1, 1),),
    [],
    [0],
    [[0]],
    [(0,)],
    ([0],),
    {},
    {0: 0},
    {"a": [1, (2, {"b": None})]},
    ({},),
    nested(30, lambda value: (value,)),
    nested(30, lambda value: [value]),
    nested(30, lambda value: {0: value}),
    nested(15, lambda value: ([value],)),
)


def outcome(function, *arguments):
    """What a call brings: its value, or the class and the fields of its error."""
    try:
        return ("value", function(*arguments))
    except ValueError as error:
        return ("error", error.__class__, vars(error))


def outcome_unchanged(function, *arguments):
    """The outcome of a call, once it is sure that it changed nothing and comes again."""
    kept = copy.deepcopy(arguments)
    found = outcome(function, *arguments)
    if repr(arguments) != repr(kept):
        raise AssertionError(f"{function.__name__} changed {kept!r} to {arguments!r}")
    if outcome(function, *kept) != found:
        raise AssertionError(f"{function.__name__}{kept!r} has two outcomes")
    return found


def told(error_class, **fields):
    """The outcome that is an error of this class with these fields."""
    return ("error", error_class, fields)
