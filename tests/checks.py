"""What several tests check in the same way."""

import copy

from joinlags.nets import Way
from samples import listed


def check_error(case, kind, attributes, act):
    """The act raises just this kind of error, with these attributes."""
    with case.assertRaises(kind) as caught:
        act()
    case.assertIs(type(caught.exception), kind)
    case.assertEqual(vars(caught.exception), attributes)


def written(result):
    """The result with each Way in it written out."""
    if isinstance(result, Way):
        return ("Way", result.workers(), result.steps())
    if isinstance(result, (list, tuple)):
        return type(result)(written(part) for part in result)
    return result


def check_call(case, function, **arguments):
    """The call gives the same by names, by position and with lists for tuples, and changes no argument."""
    expected = repr(written(function(**arguments)))
    rows = {name: value if name == "thing" else listed(value) for name, value in arguments.items()}
    before = copy.deepcopy({name: value for name, value in rows.items() if not isinstance(value, Way)})
    for call in (lambda: function(*arguments.values()), lambda: function(*rows.values()), lambda: function(**rows)):
        result = call()
        case.assertEqual(repr(written(result)), expected, function.__name__)
        if isinstance(result, list):
            result.append("changed")
        case.assertEqual({name: rows[name] for name in before}, before, function.__name__)
