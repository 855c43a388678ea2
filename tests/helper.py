"""What the tests share: terms written by hand, and how a refusal is looked at."""

from goaltrail import errors

REFUSALS = ("NoText", "NoSign", "NoRule", "Big", "HasKeep", "NotLayered", "Fault")


# These write the tuples themselves, so that a fault in goaltrail.terms can't hide itself.
def n(number):
    return ("num", number)


def v(name):
    return ("any", name)


def t(sign, *kids):
    return ("app", sign, kids)


NIL = t("[]")
A = t("a")
B = t("b")
C = t("c")
X = v("X")


def cons(*things):
    """A list of all things but the last one, which is the rest."""
    term = things[-1]
    for thing in reversed(things[:-1]):
        term = t("[|]", thing, term)
    return term


def listed(*things):
    return cons(*things, NIL)


def count_parts(term):
    """How many parts a term has, counted in the plainest way."""
    return 1 + sum(count_parts(kid) for kid in term[2]) if term[0] == "app" else 1


def assert_refused(case, name, call, *arguments, row=0):
    """The call is refused with the error class of this name, and with no other one."""
    with case.assertRaises(errors.TrailError) as told:
        call(*arguments)
    error = told.exception
    case.assertIs(error.__class__, getattr(errors, name))
    case.assertIsInstance(error, ValueError)
    for other in REFUSALS:
        if other != name:
            case.assertNotIsInstance(error, getattr(errors, other))
    case.assertEqual(error.row, row)
    case.assertIs(error.row.__class__, int)
    return error
