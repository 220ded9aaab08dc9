"""Things of every kind, for arguments that must be told from right ones."""
from fourcreases.errors import BadCorners, NoFraction
from tests.makers import point, single

DIGITS_40 = 10 ** 39 + 7


def nested(deep):
    thing = ()
    for _ in range(deep):
        thing = [thing]
    return thing


def wrong_things():
    """Things that are no fraction, no point, no plate, no numbers, no tree and so on."""
    return [
        None, True, False, 0, 1, -5, DIGITS_40, "", "leaf", "1/2", (), [], {}, {"a": 1}, {(0, 1): (1, 2)},
        (None,), (True, 1), (1, False), (1, True), [1, 2], (2, 4), (1, 0), (1, -2), (0, 5), (1, 2, 3), ("1", "2"),
        (1, "2"), nested(30), tuple(nested(29)), single(), [single()], (single(), 1), NoFraction(), BadCorners(3),
        ([1, 2], [3, 4]), [(1, 2), (3, 4)], ((1, 2),), ((1, 2), (2, 4)), ((1, 2), (True, 1)), ((1, 2), [1, 3]),
        ((1, 1), (1, 1), (1, 1)), [point(0, 0), point(1, 0)], ("leaf",), ("motion", True), ("split", 0, (), ()),
    ]


def unchanged(test, call, *arguments):
    """Check that a call leaves its arguments as they were."""
    before = repr(arguments)
    result = call(*arguments)
    test.assertEqual(repr(arguments), before)
    return result
