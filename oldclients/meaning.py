"""Runs of clients by the plain meaning of their statements (points 26, 30 and 38)."""

from oldclients.flattening import flat_rows
from oldclients.forms import is_whole, meaning_of, meaning_size
from oldclients.runs import MOST_CALLS, RunEnds
from oldclients.scripts import MAIN, script_of
from oldclients.wholes import wrapped
from oldclients.worlds import library_world


class Thing:
    """An object: its class, and what it holds by the pairs (class, field)."""

    def __init__(self, name, held):
        self.name = name
        self.held = held


class Activation:
    """A body that is executed: its script and rows, the next row, what its variables hold.

    answer is the variable for the result of the call that is active from here, or None.
    """

    def __init__(self, script):
        self.script = script
        self.rows = flat_rows(script.steps)
        self.at = 0
        self.held = {name: first_value(form) for name, form in script.scope.forms.items()}
        self.answer = None

    def form_of(self, variable):
        """Return what the form of a variable means."""
        return self.script.scope.forms[variable]

    def value(self, operand):
        """Return the value of an operand; null is None."""
        return self.held[operand] if isinstance(operand, str) else operand

    def give(self, variable, value):
        """Set a variable, unless it is None."""
        if variable is not None:
            self.held[variable] = fitted(value, self.form_of(variable))


def first_value(form):
    """Return the value of a variable at first, by what its form means."""
    return 0 if is_whole(form) else None


def fitted(value, form):
    """Return a value as it is kept where a form means this."""
    return wrapped(value, meaning_size(form)) if is_whole(form) else value


class PlainRun:
    """A run of a client with the library of a world; objects are their numbers, from 0 on."""

    def __init__(self, world, scripts, most):
        self.world = world
        self.most = most
        self.inside = library_world(world.library)
        self.scripts = {script.where: script for script in scripts}
        self.things = []
        self.count = 0
        self.events = []
        self.active = [Activation(self.scripts[MAIN])]

    def run(self):
        """Execute all statements, and return the list of the events."""
        try:
            while self.active:
                self.advance()
            self.events.append(("end", "done"))
        except RunEnds as stop:
            self.events.append(("end", stop.why))
        return self.events

    def advance(self):
        """Execute the next row of the body that is executed."""
        frame = self.active[-1]
        if frame.at == len(frame.rows):
            self.leave(None)
            return
        step = frame.rows[frame.at]
        if step[0] == "goto":
            frame.at = step[1]
            return
        if self.count >= self.most:
            raise RunEnds("steps")
        self.count += 1
        frame.at += 1
        deed = DEEDS[step[0]]
        deed(self, frame, step)

    def leave(self, value):
        """End the body that is executed; what called it gets the value, None where there is none."""
        form = self.active.pop().script.scope.result
        # main has no result, so that there is a caller
        if form is not None:
            caller = self.active[-1]
            caller.give(caller.answer, first_value(form) if value is None else fitted(value, form))

    def script_at(self, owner, name):
        """Return the script of a method of a class, or of a routine (owner is "")."""
        where = (owner, name)
        if where not in self.scripts:
            world = self.inside
            declared = world.method(owner, name) if owner else world.routine(name)
            self.scripts[where] = script_of(world, where, owner if owner else None, declared)
        return self.scripts[where]

    def enter(self, script, number, args):
        """Begin a body for an object, or for None, with the values of its parameters."""
        if len(self.active) > MOST_CALLS:
            raise RunEnds("deep")
        frame = Activation(script)
        if number is not None:
            frame.held["this"] = number
        for value, (name, form) in zip(args, script.params):
            frame.held[name] = fitted(value, form)
        self.active.append(frame)

    def has_part(self, number, name):
        """Tell whether an object has a part of a class."""
        return self.world.derives(self.things[number].name, name)

    def last_override(self, number, introducer, method):
        """Return the class whose method is called for an object; end the run if there is none with a body."""
        last = self.world.last_override(self.things[number].name, introducer, method)
        if last is None or self.world.method(last, method).body is None:
            raise RunEnds("fault")
        return last


def do_set(run, frame, step):
    """Execute a set."""
    frame.give(step[1], frame.value(step[2]))


def do_add(run, frame, step):
    """Execute an add."""
    frame.give(step[1], frame.value(step[2]) + frame.value(step[3]))


def do_less(run, frame, step):
    """Execute a less."""
    frame.give(step[1], 1 if frame.value(step[2]) < frame.value(step[3]) else 0)


def do_new(run, frame, step):
    """Make an object."""
    _, variable, name = step
    held = {(owner, field.name): field.start if is_whole(meaning_of(field.form)) else None
            for owner in run.world.line(name) for field in run.world.item(owner).fields}
    run.events.append(("new", name))
    run.things.append(Thing(name, held))
    frame.give(variable, len(run.things) - 1)


def holder_of(frame, variable):
    """Return the number of the object whose member is used; end the run if there is none."""
    number = frame.value(variable)
    if number is None:
        raise RunEnds("null")
    return number


def do_get(run, frame, step):
    """Execute a get."""
    _, variable, holder, (_, owner, name) = step
    number = holder_of(frame, holder)
    run.events.append(("get", number, owner, name))
    frame.give(variable, run.things[number].held[owner, name])


def do_put(run, frame, step):
    """Execute a put."""
    _, holder, (_, owner, name), value = step
    number = holder_of(frame, holder)
    run.events.append(("put", number, owner, name))
    form = meaning_of(run.world.field(owner, name).form)
    run.things[number].held[owner, name] = fitted(frame.value(value), form)


def do_call(run, frame, step):
    """Execute a call."""
    _, variable, holder, (word, owner, name), args = step
    number = holder_of(frame, holder)
    if word == "open":
        owner = run.last_override(number, owner, name)
    run.events.append(("call", number, owner, name))
    frame.answer = variable
    run.enter(run.script_at(owner, name), number, [frame.value(value) for value in args])


def do_routine(run, frame, step):
    """Execute a do."""
    _, variable, name, args = step
    run.events.append(("do", name))
    frame.answer = variable
    run.enter(run.script_at("", name), None, [frame.value(value) for value in args])


def do_cast(run, frame, step):
    """Execute a cast."""
    _, variable, other = step
    number = frame.value(other)
    if number is not None and not run.has_part(number, frame.form_of(variable)):
        number = None
    run.events.append(("cast", -1 if number is None else number))
    frame.give(variable, number)


def do_say(run, frame, step):
    """Execute a say."""
    run.events.append(("say", frame.value(step[1])))


def do_test(run, frame, step):
    """Execute the test of an if or a while."""
    _, test, row = step
    value = frame.value(test)
    if value is None or (value == 0 and frame_has_number(frame, test)):
        frame.at = row


def frame_has_number(frame, operand):
    """Tell whether an operand is a number; the first object has the number 0, too, and is not null."""
    return not isinstance(operand, str) or is_whole(frame.form_of(operand))


def do_return(run, frame, step):
    """Execute a return."""
    run.leave(frame.value(step[1]))


DEEDS = {
    "set": do_set, "add": do_add, "less": do_less, "new": do_new, "get": do_get, "put": do_put, "call": do_call,
    "do": do_routine, "cast": do_cast, "say": do_say, "if": do_test, "return": do_return,
}
