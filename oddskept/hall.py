"""Halls: programs with the objects that they call, played by code or by plain books."""

from oddskept.coderun import first_state, moves_at
from oddskept.errors import Unfit
from oddskept.plainrun import DONE, options_at
from oddskept.proglines import REGISTERS
from oddskept.stocks import first_plain

CODE = "code"
PLAIN = "plain"


class Hall:
    """A program with a stock and a way for each of its objects."""

    def __init__(self, program, stocks, ways):
        self.program = program
        self.stocks = tuple(stocks)
        self.ways = tuple(ways)
        if len(self.stocks) != program.objects or len(self.ways) != program.objects:
            raise Unfit("each object has one stock and one way")
        if not all([way in (CODE, PLAIN) for way in self.ways]):
            raise Unfit("a way is code or plain")
        for thread in program.threads:
            for instruction in thread:
                if instruction[0] == "call" and not _has_port(self.stocks[instruction[2]], instruction[3]):
                    raise Unfit("a call names a port that is not there or has no item")


def _has_port(stock, port):
    """Tell whether the code of a stock has a port of this number with items."""
    return port < len(stock.code.ports) and len(stock.code.ports[port]) > 0


def first_position(hall):
    """Return the position in which a hall starts."""
    program = hall.program
    thread = (0, (0,) * REGISTERS, ())
    objects = [first_state(stock.code) if way == CODE else first_plain(stock)
               for stock, way in zip(hall.stocks, hall.ways)]
    return ((0,) * program.mail, (thread,) * len(program.threads), tuple(objects))


def picks_at(hall, position):
    """Return the ascending list of the picks of a position."""
    return [pick for thread in range(len(position[1])) for pick in picks_of(hall, position, thread)]


def picks_of(hall, position, thread):
    """Return the ascending list of the picks of one thread."""
    mail, threads, objects = position
    line, _, inside = threads[thread]
    if inside == ():
        return [] if _waits(mail, hall.program.threads[thread][line]) else [(thread, 0)]
    number, port = inside
    return [(thread, choice) for choice in range(_ways_on(hall, objects[number], number, port))]


def _waits(mail, instruction):
    """Tell whether a thread does nothing at this line while the mail cells are such."""
    if instruction[0] == "send":
        return mail[instruction[2]] != 0
    if instruction[0] == "fetch":
        return mail[instruction[2]] == 0
    return instruction[0] == "stop"


def _ways_on(hall, state, number, port):
    """Return how many ways to go on the call at a port of an object in this state has."""
    stock = hall.stocks[number]
    if hall.ways[number] == CODE:
        return len(moves_at(stock.code, state, port))
    if state[1][port][0] == DONE:
        return 1
    return len(options_at(stock, state, port))
