"""What several tests need."""

from oddskept.codebook import CodeBook
from oddskept.coderun import after, moves_of
from oddskept.plainbook import PlainBook
from oddskept.stocks import Stock

ANSWER = (("answer", 0), False)

# Two states; `get` tells the state, `put` sets it to the argument, `wait` is known in state 1 alone.
CELL = PlainBook(2, 0, [
    ("get", 0, 0, 0, 0), ("get", 1, 0, 1, 1),
    ("put", 0, 0, 0, 0), ("put", 0, 1, 1, 0), ("put", 1, 0, 0, 1), ("put", 1, 1, 1, 1),
    ("wait", 1, 0, 0, 1),
])


def code_with(**changes):
    """A small code book with some fields changed."""
    fields = {"modulus": 2, "registers": 1, "rows": [], "parts": [], "ports": [[("go", 0)]], "deeds": [("go", [ANSWER])]}
    return CodeBook(**{**fields, **changes})


def loose(*instructions):
    """The lines with these instructions, none of them fused."""
    return [(instruction, False) for instruction in instructions]


def lines(*told):
    """The lines with these instructions; those behind a "+" are fused."""
    found = []
    mark = False
    for one in told:
        if one == "+":
            mark = True
        else:
            found.append((one, mark))
            mark = False
    return found


def fields_of(thing):
    """The fields of a book, for comparing two books by them."""
    if isinstance(thing, PlainBook):
        return ("plain", thing.states, thing.first, thing.choices)
    if isinstance(thing, Stock):
        return (fields_of(thing.code), fields_of(thing.plain))
    parts = tuple((name, fields_of(book)) for name, book in thing.parts)
    return ("code", thing.modulus, thing.registers, thing.rows, parts, thing.ports, thing.deeds)


def is_exact(value, kinds=(int, str, tuple)):
    """Whether a value is made of values of exactly these kinds, tuples at every level."""
    if type(value) is tuple:
        return all(is_exact(one, kinds) for one in value)
    return type(value) in kinds


def shuffled(generator, values):
    """The values in another order."""
    values = list(values)
    generator.shuffle(values)
    return values


def random_plain(generator, deeds, values=2, states=3):
    """A plain book in which each deed has 0 to 3 options."""
    choices = []
    for deed in deeds:
        for state in range(states):
            for argument in range(values):
                ways = [(goal, answer) for goal in range(states) for answer in range(values)]
                for goal, answer in generator.sample(ways, generator.randint(0, 3)):
                    choices.append((deed, state, argument, goal, answer))
    return PlainBook(states, generator.randrange(states), choices)


def random_marks(generator, deeds, ports):
    """Marks of all three forms, one of them perhaps of a deed that no book knows."""
    ways = [(), (1, 0), (1, 1), (0, "nobody", 0)]
    ways += [(0, deed, argument) for deed in deeds for argument in (0, 1)] * 2
    return tuple(generator.choice(ways) for _ in range(ports))


def random_row(generator, code, state, many):
    """A row of at most so many moves from a state."""
    row = []
    for _ in range(many):
        moves = moves_of(code, state)
        if not moves:
            break
        row.append(generator.choice(moves))
        state = after(code, state, row[-1])
    return row
