"""Help for tests of errors: what a call raises, and the order in which it does so."""

from itertools import combinations

from hushdrawers.errors import DrawerError

STRANGE = (None, True, False, 1.0, "", "abcde", b"12345", [], {}, set(), object(), (), (1,), -1)


def raised(function, *arguments):
    """The class and the fields of the error that a call raises, or ("returned", value)."""
    try:
        value = function(*arguments)
    except DrawerError as error:
        return (type(error).__name__, *vars(error).values())
    return ("returned", value)


def check_order(case, function, right, wrongs):
    """Check the order of errors: wrongs are (place, value, error), the first to be told first."""
    case.assertEqual(raised(function, *right)[0], "returned")
    for many in range(1, len(wrongs) + 1):
        for chosen in combinations(wrongs, many):
            if len({place for place, _, _ in chosen}) < many:
                continue
            arguments = list(right)
            for place, value, _ in chosen:
                arguments[place] = value
            case.assertEqual(raised(function, *arguments), chosen[0][2], (function, arguments))
