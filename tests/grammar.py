"""The form of texts (points 70 to 73) as a grammar, and which token of a text is the first that cannot follow."""

import re

RULES = """
    library: classes routines
    client: classes main { body }
    classes: | class classes
    class: 'class NAME bases closed lent { fields methods }
    bases: | : base morebases
    morebases: | , base morebases
    base: plain NAME | shared NAME
    closed: | 'closed
    lent: | 'lent
    fields: | field fields
    field: 'field NAME NAME start hidden
    start: | = integer
    integer: ZERO | NUMBER | - NUMBER
    hidden: | 'hidden
    methods: | method methods
    method: bare head hidden | plain head hidden { body } | open head hidden { body }
    head: NAME ( params ) result
    params: | param moreparams
    moreparams: | , param moreparams
    param: NAME NAME
    result: | : NAME
    routines: | routine routines
    routine: 'routine head { body }
    body: variables steps
    variables: | var NAME NAME variables
    steps: | step steps
    step: set NAME = value | add NAME = value value | less NAME = value value | new NAME = NAME | cast NAME = NAME
    step: get NAME = NAME . NAME | put NAME . NAME = value | call target NAME . NAME ( args )
    step: do target NAME ( args ) | say value | return value
    step: if value { steps } else { steps } | while value { steps }
    target: | NAME =
    args: | value moreargs
    moreargs: | , value moreargs
    value: NAME | integer | *
"""
PATTERNS = {"NAME": "[a-zA-Z][a-zA-Z0-9]{0,11}", "ZERO": "0", "NUMBER": "[1-9][0-9]{0,19}"}


def grammar():
    """Return a dict from the names of the rules to the lists of their ways."""
    rules = {}
    for line in RULES.strip().splitlines():
        name, ways = line.strip().split(": ", 1) if ": " in line else (line.strip()[:-1], "")
        rules.setdefault(name, []).extend(tuple(way.split()) for way in ways.split("|"))
    return rules


GRAMMAR = grammar()


def tokens_of(text):
    """Return the tokens of a text."""
    return re.findall("[a-zA-Z0-9]+|[^ \n]", text)


def is_rule(sign):
    return sign in GRAMMAR


def matches(sign, token):
    """Return whether a token is what a sign of the grammar tells."""
    if sign in PATTERNS:
        return re.fullmatch(PATTERNS[sign], token) is not None
    return token == sign.lstrip("'")


def empty_rules():
    """Return the names of the rules that nothing may stand for."""
    known, more = set(), True
    while more:
        found = {name for name, ways in GRAMMAR.items() if any(all(sign in known for sign in way) for way in ways)}
        more, known = found != known, found
    return known


EMPTY = empty_rules()


def closed_state(states, at, todo):
    """Return the items (rule, way, dot, begin) of a state with all that follows from them."""
    state = set(todo)
    todo = list(todo)
    while todo:
        name, way, dot, begin = todo.pop()
        found = []
        if dot == len(way):
            found = [(one, row, point + 1, start) for one, row, point, start in (state if begin == at else states[begin])
                     if point < len(row) and row[point] == name]
        elif is_rule(way[dot]):
            found = [(way[dot], other, 0, at) for other in GRAMMAR[way[dot]]]
            if way[dot] in EMPTY:
                found.append((name, way, dot + 1, begin))
        for item in found:
            if item not in state:
                state.add(item)
                todo.append(item)
    return state


def first_wrong(text, goal):
    """Return the index of the first token that cannot follow, the number of tokens if more must follow, or None."""
    tokens = tokens_of(text)
    states = [closed_state([], 0, [("goal", (goal,), 0, 0)])]
    for at, token in enumerate(tokens):
        moved = [(name, way, dot + 1, begin) for name, way, dot, begin in states[at]
                 if dot < len(way) and not is_rule(way[dot]) and matches(way[dot], token)]
        if not moved:
            return at
        states.append(closed_state(states, at + 1, moved))
    return None if ("goal", (goal,), 1, 0) in states[-1] else len(tokens)
