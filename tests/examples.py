"""Runs examples that are written as the document writes them."""

import re

RAISES = re.compile(r"raises (\w+)\((.*)\)")


def pairs_of(text):
    """The pairs (line behind >>>, the answer below it or None) of a text."""
    found = []
    for line in text.strip().split("\n"):
        line = line.strip()
        if line.startswith(">>> "):
            found.append((line[4:], None))
        else:
            found[-1] = (found[-1][0], line)
    return found


def run_line(line, scope):
    """What a line gives: None for a statement."""
    try:
        code = compile(line, "example", "eval")
    except SyntaxError:
        exec(line, scope)
        return None
    return eval(code, scope)


def check_raises(case, line, answer, scope):
    name, inside = RAISES.fullmatch(answer).groups()
    attributes = eval(f"dict({inside})", {})
    with case.assertRaises(scope[name], msg=line) as caught:
        run_line(line, scope)
    case.assertIs(type(caught.exception), scope[name], line)
    case.assertEqual(vars(caught.exception), attributes, line)


def check_examples(case, text, names):
    """Run all examples of the text in one scope; the number of answers that were compared."""
    scope = dict(names)
    compared = 0
    for line, answer in pairs_of(text):
        if answer is None:
            run_line(line, scope)
            continue
        compared += 1
        if answer.startswith("raises "):
            check_raises(case, line, answer, scope)
        else:
            case.assertEqual(repr(run_line(line, scope)), answer, line)
    return compared
