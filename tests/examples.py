"""Checks the examples of the document, as they are written there."""


def check_examples(case, names, text):
    """Evaluates each line behind `>>> ` and compares what it gives with the line below it."""
    lines = [line for line in text.strip().split("\n") if line]
    at = 0
    checked = 0
    while at < len(lines):
        source = lines[at].removeprefix(">>> ")
        case.assertNotEqual(source, lines[at], "an example begins with >>>")
        at += 1
        told = None
        if at < len(lines) and not lines[at].startswith(">>> "):
            told = lines[at]
            at += 1
        if told is None:
            exec(source, names)
        elif told.startswith("raises "):
            with case.assertRaises(names[told.removeprefix("raises ")], msg=source):
                eval(source, names)
        else:
            case.assertEqual(repr(eval(source, names)), told, source)
        checked += 1
    case.assertGreater(checked, 0)
