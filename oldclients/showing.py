"""Libraries and clients as lines of text (points 70 to 72)."""


def indented(lines):
    """Return lines one level further inside."""
    return ["  " + line for line in lines]


def text_of(lines):
    """Return the text of some lines."""
    return "".join([line + "\n" for line in lines])


def value_text(operand):
    """Return the text of an operand: a variable, an integer, or null."""
    return "*" if operand is None else str(operand)


def args_text(args):
    """Return the text of the operands of a call."""
    return "(" + ", ".join([value_text(operand) for operand in args]) + ")"


def answer_text(variable):
    """Return what stands ahead of a call for the variable that is set to its result."""
    return "" if variable is None else variable + " = "


def plain_line(step):
    """Return the line of a statement with no others inside."""
    word, *rest = step
    match word:
        case "set":
            return f"set {rest[0]} = {value_text(rest[1])}"
        case "add" | "less":
            return f"{word} {rest[0]} = {value_text(rest[1])} {value_text(rest[2])}"
        case "new" | "cast":
            return f"{word} {rest[0]} = {rest[1]}"
        case "get":
            return f"get {rest[0]} = {rest[1]}.{rest[2]}"
        case "put":
            return f"put {rest[0]}.{rest[1]} = {value_text(rest[2])}"
        case "call":
            return f"call {answer_text(rest[0])}{rest[1]}.{rest[2]}{args_text(rest[3])}"
        case "do":
            return f"do {answer_text(rest[0])}{rest[1]}{args_text(rest[2])}"
    return f"{word} {value_text(rest[0])}"


def step_lines(steps):
    """Return the lines of statements."""
    lines = []
    for step in steps:
        if step[0] == "if":
            lines.append("if " + value_text(step[1]) + " {")
            lines.extend(indented(step_lines(step[2])) + ["} else {"] + indented(step_lines(step[3])) + ["}"])
        elif step[0] == "while":
            lines.append("while " + value_text(step[1]) + " {")
            lines.extend(indented(step_lines(step[2])) + ["}"])
        else:
            lines.append(plain_line(step))
    return lines


def body_lines(variables, steps):
    """Return the lines of a body, and the one that ends it."""
    return indented([f"var {name} {form}" for name, form in variables] + step_lines(steps)) + ["}"]


def head_text(declared):
    """Return the text of the name, the parameters and the result of a method or routine."""
    params = ", ".join([f"{name} {form}" for name, form in declared.params])
    result = "" if declared.result is None else ": " + declared.result
    return declared.name + "(" + params + ")" + result


def hidden_text(member):
    """Return what stands behind a member that is not shown."""
    return "" if member.shown else " hidden"


def field_line(field):
    """Return the line of a field."""
    start = "" if field.start == 0 else " = " + str(field.start)
    return f"field {field.name} {field.form}" + start + hidden_text(field)


def method_lines(method):
    """Return the lines of a method."""
    head = method.kind + " " + head_text(method) + hidden_text(method)
    if method.body is None:
        return [head]
    return [head + " {"] + body_lines(method.body.variables, method.body.steps)


def class_lines(item):
    """Return the lines of a class."""
    bases = ", ".join([f"{kind} {name}" for name, kind in item.bases])
    marks = (" closed" if item.closed else "") + (" lent" if item.lent else "")
    lines = [field_line(field) for field in item.fields]
    for method in item.methods:
        lines.extend(method_lines(method))
    head = "class " + item.name + (" : " + bases if bases else "") + marks + " {"
    return [head] + indented(lines) + ["}"]


def routine_lines(routine):
    """Return the lines of a routine."""
    return ["routine " + head_text(routine) + " {"] + body_lines(routine.body.variables, routine.body.steps)


def main_lines(client):
    """Return the lines of the main routine of a client."""
    return ["main {"] + body_lines(client.variables, client.steps)
