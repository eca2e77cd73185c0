"""What several tests need: things that are nothing in particular, and refusals."""

from foldlog.errors import LogError, NoWay


def a_function(moment):
    return True


THIRTY = 10 ** 30 - 1

# Things of every kind that may be handed in where any thing may.
ODD_THINGS = [
    None, True, False, "", " ", "0", "1", "a", "abc", "0.00.00", "+0.00", [], (), {}, [0], (0,), (0, 0),
    [(0, 0)], [[0, 0]], {0: 0}, {"a": 1}, a_function, LogError("a text"), THIRTY, -THIRTY, [None], ("a", [()]),
]


def deep_list():
    # Nested beyond what Python can write out or compare.
    thing = []
    for turn in range(5000):
        thing = [thing]
    return thing


def refuses(case, wanted, field, value, call, *arguments):
    # The very class, no class above or below it; and the very thing or an equal number.
    with case.assertRaises(LogError) as caught:
        call(*arguments)
    error = caught.exception
    case.assertIs(type(error), wanted)
    case.assertEqual(vars(error), {field: getattr(error, field)})
    told = getattr(error, field)
    if isinstance(value, int):
        case.assertIs(type(told), type(value))
        case.assertEqual(told, value)
    else:
        case.assertIs(told, value)


def no_way(case, call, *arguments):
    # The paper of a refusal with NoWay.
    with case.assertRaises(LogError) as caught:
        call(*arguments)
    case.assertIs(type(caught.exception), NoWay)
    case.assertEqual(list(vars(caught.exception)), ["paper"])
    return caught.exception.paper
