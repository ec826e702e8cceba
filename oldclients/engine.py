"""The machine on which code runs (points 31 and 35 to 37)."""

from oldclients.parts import FIRST_PIECE, PIECE_ALIGNMENT, POINTER_SIZE, first_places, rounded_up
from oldclients.runs import MOST_CALLS, RunEnds
from oldclients.scripts import MAIN
from oldclients.tables import FIRST_WAY
from oldclients.wholes import number_at, put_number, wrapped


class Frame:
    """A body that is executed: the size of its result, its rows, the next row and instruction, what variables hold.

    answer is the helping variable for the result of the call that is active from here.
    """

    def __init__(self, size, rows, held):
        self.size = size
        self.rows = rows
        self.row = 0
        self.at = 0
        self.held = held
        self.answer = ""

    def value(self, operand):
        """Return the value of an operand; variables that were not set yet are 0."""
        return self.held.get(operand, 0) if isinstance(operand, str) else operand

    def jump(self, row):
        """Go on with a row."""
        self.row = row
        self.at = 0


class Table:
    """A table: the class of its objects, its place in them, the numbers of its ways, and its entries."""

    def __init__(self, name, code):
        self.name = name
        self.place, self.shifts, self.calls = code


class Machine:
    """Memory, tables and bodies of a client's code and of a build; a watch is told what a run does.

    classes has the codes of classes without their names, by these; said has the numbers that were said, and
    ended how the run ended, None if it goes on.
    """

    def __init__(self, code, build, most, watch):
        self.classes = dict(build.classes)
        for name, *rest in code.classes:
            self.classes[name] = tuple(rest)
        self.bodies = dict(build.bodies)
        for where, body in code.bodies:
            self.bodies[where] = body
        self.all_tables = []
        self.firsts = {}
        for name, item in self.classes.items():
            self.firsts[name] = len(self.all_tables) + 1
            self.all_tables.extend([Table(name, table) for table in item[2]])
        self.watch = watch
        self.most = most
        self.count = 0
        self.cells = [0] * FIRST_PIECE
        self.said = []
        self.ended = None
        _, size, rows = self.bodies[MAIN]
        self.active = [Frame(size, rows, {})]

    def run(self):
        """Execute all instructions."""
        while self.ended is None:
            self.advance()

    def take_turn(self, pace):
        """Execute at most so many statements, and what belongs to them."""
        goal = self.count + pace
        while self.ended is None and (self.count < goal or not self.is_at_statement()):
            self.advance()

    def is_at_statement(self):
        """Tell whether the next instruction begins a statement that is counted."""
        frame = self.active[-1]
        return frame.row < len(frame.rows) and frame.at == 0 and frame.rows[frame.row][0][0] != "goto"

    def advance(self):
        """Execute the next instruction, or end the run."""
        try:
            self.execute(self.active[-1])
            if not self.active:
                self.ended = "done"
        except RunEnds as stop:
            self.ended = stop.why

    def execute(self, frame):
        """Execute the next instruction of the body that is executed."""
        if frame.row == len(frame.rows):
            self.leave(0)
            return
        if self.is_at_statement():
            if self.count >= self.most:
                raise RunEnds("steps")
            self.count += 1
        row = frame.rows[frame.row]
        deed = row[frame.at]
        frame.at += 1
        if frame.at == len(row):
            frame.jump(frame.row + 1)
        word, *rest = deed
        action = DEEDS[word]
        action(self, frame, *rest)

    def enter(self, where, held, args):
        """Begin a body that is there, with this among what is held if it is a method."""
        if where not in self.bodies:
            raise RunEnds("fault")
        if len(self.active) > MOST_CALLS:
            raise RunEnds("deep")
        params, size, rows = self.bodies[where]
        for value, (name, width) in zip(args, params):
            held[name] = wrapped(value, width)
        self.active.append(Frame(size, rows, held))

    def leave(self, value):
        """End the body that is executed; what called it gets the value."""
        frame = self.active.pop()
        if self.active:
            caller = self.active[-1]
            caller.held[caller.answer] = wrapped(value, frame.size)

    def check(self, place, size):
        """End the run if there are no bytes to load or store."""
        if place < FIRST_PIECE or rounded_up(place, size) != place or place + size > len(self.cells):
            raise RunEnds("fault")

    def load(self, place, size):
        """Return the number in some bytes."""
        self.check(place, size)
        return number_at(self.cells, place, size)

    def store(self, place, size, number):
        """Put a number into some bytes."""
        self.check(place, size)
        put_number(self.cells, place, size, number)

    def table(self, place):
        """Return the table to which the pointer at a place leads."""
        number = self.load(place, POINTER_SIZE)
        if not 1 <= number <= len(self.all_tables):
            raise RunEnds("fault")
        return self.all_tables[number - 1]

    def followed(self, place, way):
        """Return the place to which a way leads from a reference that is not null."""
        if way[0] == "place":
            return place + way[1]
        _, number, rest = way
        shifts = self.table(place).shifts
        if FIRST_WAY - number >= len(shifts):
            raise RunEnds("fault")
        return place + shifts[FIRST_WAY - number] + rest

    def make(self, name, size):
        """Make an object of a class in a piece of a size, and return its place."""
        if name not in self.classes or not all([part in self.classes for part, _ in self.classes[name][1]]):
            raise RunEnds("fault")
        start = rounded_up(len(self.cells), PIECE_ALIGNMENT)
        self.cells.extend([0] * (start + size - len(self.cells)))
        self.watch.made(name, start, size)
        _, _, tables, starts, _ = self.classes[name]
        for index, table in enumerate(tables):
            self.store(start + table[0], POINTER_SIZE, self.firsts[name] + index)
        self.start_part(name, start)
        for shared, place in starts[1]:
            self.start_part(shared, start + place)
        return start

    def start_part(self, name, place):
        """Give the fields of a near part their start values: those of the plain bases, then its own."""
        _, _, _, starts, fields = self.classes[name]
        for base, at in starts[0]:
            self.start_part(base, place + at)
        for _, at, size, number in fields:
            self.store(place + at, size, number)


def holder_of(frame, variable):
    """Return the reference in a variable whose member is used; end the run if it is null."""
    place = frame.value(variable)
    if place == 0:
        raise RunEnds("null")
    return place


def do_set(machine, frame, variable, operand, size):
    """Execute a set."""
    frame.held[variable] = wrapped(frame.value(operand), size)


def do_add(machine, frame, variable, one, other, size):
    """Execute an add."""
    frame.held[variable] = wrapped(frame.value(one) + frame.value(other), size)


def do_less(machine, frame, variable, one, other, size):
    """Execute a less."""
    frame.held[variable] = wrapped(1 if frame.value(one) < frame.value(other) else 0, size)


def do_say(machine, frame, operand):
    """Execute a say."""
    number = frame.value(operand)
    machine.watch.told(number)
    machine.said.append(number)


def do_return(machine, frame, operand):
    """Execute a return."""
    machine.leave(frame.value(operand))


def do_goto(machine, frame, row):
    """Execute a goto."""
    frame.jump(row)


def do_test(machine, frame, operand, row):
    """Execute the test of an if or a while."""
    if frame.value(operand) == 0:
        frame.jump(row)


def do_move(machine, frame, variable, operand, way):
    """Execute a move; null stays null."""
    place = frame.value(operand)
    frame.held[variable] = 0 if place == 0 else machine.followed(place, way)


def do_make(machine, frame, variable, name, size):
    """Execute a make."""
    frame.held[variable] = machine.make(name, size)


def do_cast(machine, frame, variable, other, name):
    """Execute a cast: the pointer tells the class of the object, and where it begins."""
    place = frame.value(other)
    found = 0
    if place != 0:
        table = machine.table(place)
        places = first_places(machine.classes[table.name][1])
        found = place - table.place + places[name] if name in places else 0
    machine.watch.turned(found, name)
    frame.held[variable] = found


def do_load(machine, frame, variable, holder, way, size):
    """Execute a load of a field."""
    place = machine.followed(holder_of(frame, holder), way)
    machine.watch.touched("get", place, size)
    frame.held[variable] = machine.load(place, size)


def do_store(machine, frame, holder, way, size, operand):
    """Execute a store to a field."""
    place = machine.followed(holder_of(frame, holder), way)
    machine.watch.touched("put", place, size)
    machine.store(place, size, frame.value(operand))


def do_call(machine, frame, variable, holder, way, number, args):
    """Execute a call by a table."""
    place = machine.followed(holder_of(frame, holder), way)
    calls = machine.table(place).calls
    if number >= len(calls):
        raise RunEnds("fault")
    where, shift = calls[number]
    # where the method is missing the class is "", as in the places of routines
    if where[0] == "" or where not in machine.bodies:
        raise RunEnds("fault")
    call_method(machine, frame, variable, where, place + shift, args)


def do_link(machine, frame, variable, holder, way, where, args):
    """Execute a call of a plain method."""
    call_method(machine, frame, variable, where, machine.followed(holder_of(frame, holder), way), args)


def call_method(machine, frame, variable, where, place, args):
    """Call a method with a reference to the part of its class."""
    machine.watch.called(place, where)
    frame.answer = variable
    machine.enter(where, {"this": place}, [frame.value(operand) for operand in args])


def do_routine(machine, frame, variable, name, args):
    """Execute a do."""
    machine.watch.did(name)
    frame.answer = variable
    machine.enter(("", name), {}, [frame.value(operand) for operand in args])


DEEDS = {
    "set": do_set, "add": do_add, "less": do_less, "say": do_say, "return": do_return, "goto": do_goto, "if": do_test,
    "move": do_move, "make": do_make, "cast": do_cast, "load": do_load, "store": do_store, "call": do_call,
    "link": do_link, "do": do_routine,
}
