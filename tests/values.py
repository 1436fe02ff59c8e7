"""Values of all the kinds that a caller may hand in, and a check that calls leave them alone."""

import contextlib
import copy
import itertools
import signal


def nested(depth, wrap):
    value = 0
    for _ in range(depth):
        value = wrap(value)
    return value


ODD_VALUES = (
    None,
    True,
    False,
    -1,
    0,
    1,
    7,
    10 ** 400,
    -(10 ** 400),
    "",
    "0",
    "a=0;a",
    "\x00\u00e9\U0001f300\ud800",
    (),
    (0,),
    (True,),
    (None,),
    ("0",),
    ((),),
    ((0,),),
    ((False,),),
    ((0, 1), (-1, 0)),
    ((0, 1, 1),),
    [],
    [0],
    [[0]],
    [(0,)],
    ([0],),
    {},
    {0: 0},
    {"a": [1, (2, {"b": None})]},
    ({},),
    nested(30, lambda value: (value,)),
    nested(30, lambda value: [value]),
    nested(30, lambda value: {0: value}),
    nested(15, lambda value: ([value],)),
)


def outcome(function, *arguments):
    """What a call brings: its value, or the class and the fields of its error."""
    try:
        return ("value", function(*arguments))
    except ValueError as error:
        return ("error", error.__class__, vars(error))


def outcome_unchanged(function, *arguments):
    """The outcome of a call, once it is sure that it changed nothing and comes again."""
    kept = copy.deepcopy(arguments)
    found = outcome(function, *arguments)
    if repr(arguments) != repr(kept):
        raise AssertionError(f"{function.__name__} changed {kept!r} to {arguments!r}")
    if outcome(function, *kept) != found:
        raise AssertionError(f"{function.__name__}{kept!r} has two outcomes")
    return found


def told(error_class, **fields):
    """The outcome that is an error of this class with these fields."""
    return ("error", error_class, fields)


@contextlib.contextmanager
def in_good_time(seconds=60):
    """Fail, rather than wait on, if what stands within takes longer."""
    def stop(number, frame):
        raise AssertionError(f"not done within {seconds} seconds")

    before = signal.signal(signal.SIGALRM, stop)
    signal.alarm(seconds)
    try:
        yield
    finally:
        signal.alarm(0)
        signal.signal(signal.SIGALRM, before)


def is_int(value):
    return type(value) is int


def right_count(value):
    return is_int(value) and 1 <= value <= 6


def check_arguments(test, function, rights, spoilt=()):
    """Hand in odd values at every place, alone and two at once: the first wrong one must be told.

    rights has, for each parameter, a right argument, a predicate that takes the arguments up to
    this one, and the error class, or None where any value is right; spoilt has more odd values.
    """
    good = tuple(right for right, _, _ in rights)
    test.assertEqual(outcome_unchanged(function, *good)[0], "value", function.__name__)
    odd = ODD_VALUES + tuple(spoilt)
    for at in range(len(good)):
        for value in odd:
            check_call(test, function, good[:at] + (value,) + good[at + 1:], rights)
    for at, behind in itertools.combinations(range(len(good)), 2):
        for value, second in itertools.product(odd, odd[::4]):
            between = good[at + 1:behind]
            check_call(test, function, good[:at] + (value,) + between + (second,) + good[behind + 1:], rights)


def check_call(test, function, arguments, rights):
    """Check that the call tells the first argument that isn't right, or none of them."""
    found = outcome_unchanged(function, *arguments)
    message = (function.__name__, repr(arguments)[:300])
    for at, (_, is_right, error_class) in enumerate(rights):
        if error_class is not None and not is_right(*arguments[:at + 1]):
            test.assertEqual(found, told(error_class), message)
            return
    test.assertFalse(found[0] == "error" and found[1] in [error_class for _, _, error_class in rights], message)
