"""What several tests need."""

import random

from oddskept.codebook import CodeBook
from oddskept.coderun import after, first_state, moves_of
from oddskept.codestates import code_states
from oddskept.errors import BadBook
from oddskept.families import stairs, tally
from oddskept.levels import grade_of
from oddskept.nodes import pairs_of
from oddskept.plainbook import PlainBook
from oddskept.stocks import Stock

ANSWER = (("answer", 0), False)

# Two states; `get` tells the state, `put` sets it to the argument, `wait` is known in state 1 alone.
CELL = PlainBook(2, 0, [
    ("get", 0, 0, 0, 0), ("get", 1, 0, 1, 1),
    ("put", 0, 0, 0, 0), ("put", 0, 1, 1, 0), ("put", 1, 0, 0, 1), ("put", 1, 1, 1, 1),
    ("wait", 1, 0, 0, 1),
])


def code_with(**changes):
    """A small code book with some fields changed."""
    fields = {"modulus": 2, "registers": 1, "rows": [], "parts": [], "ports": [[("go", 0)]], "deeds": [("go", [ANSWER])]}
    return CodeBook(**{**fields, **changes})


def loose(*instructions):
    """The lines with these instructions, none of them fused."""
    return [(instruction, False) for instruction in instructions]


def lines(*told):
    """The lines with these instructions; those behind a "+" are fused."""
    found = []
    mark = False
    for one in told:
        if one == "+":
            mark = True
        else:
            found.append((one, mark))
            mark = False
    return found


def fields_of(thing):
    """The fields of a book, for comparing two books by them."""
    if isinstance(thing, PlainBook):
        return ("plain", thing.states, thing.first, thing.choices)
    if isinstance(thing, Stock):
        return (fields_of(thing.code), fields_of(thing.plain))
    parts = tuple((name, fields_of(book)) for name, book in thing.parts)
    return ("code", thing.modulus, thing.registers, thing.rows, parts, thing.ports, thing.deeds)


def is_exact(value, kinds=(int, str, tuple)):
    """Whether a value is made of values of exactly these kinds, tuples at every level."""
    waiting = [value]
    while waiting:
        one = waiting.pop()
        if type(one) is tuple:
            waiting.extend(one)
        elif type(one) not in kinds:
            return False
    return True


def shuffled(generator, values):
    """The values in another order."""
    values = list(values)
    generator.shuffle(values)
    return values


def random_code(generator):
    """A code book of two or three ports whose deeds read and write one cell."""
    words = [("read", 1, 0, 0), ("write", 0, 0, 0), ("swap", 1, 0, 0), ("count", 1, 1, 0, 0), ("set", 1, 1),
             ("use", 1, 0, "put", 0), ("use", 1, 0, "wait", 0)]
    deeds = []
    for name in ("go", "hit"):
        told = [(one, generator.random() < 0.4) for one in generator.choices(words, k=generator.randint(0, 2))]
        deeds.append((name, told + [(("answer", generator.randrange(2)), False)]))
    items = [("go", 0), ("go", 1), ("hit", 0), ("hit", 1)]
    ports = [generator.sample(items, generator.randint(0, 2)) for _ in range(generator.randint(2, 3))]
    return CodeBook(2, 2, [[0]], [("cell", CELL)], ports, deeds)


def looping_code(generator):
    """A code book with jumps, forward and back, some of whose lines are fused."""
    while True:
        deeds = []
        for name in ("go", "hit", "stay"):
            many = generator.randint(2, 8)
            words = [("set", 0, 1), ("copy", 1, 0), ("add", 0, 0, 1), ("less", 0, 1, 0), ("same", 1, 0, 1), ("read", 0, 0, 0), ("swap", 1, 0, 0),
                     ("use", 0, 0, "put", 1), ("use", 0, 0, "wait", 1)]
            told = []
            for _ in range(many):
                line = generator.choice(words + [("jump", generator.randrange(many + 1)), ("jump", generator.randrange(many + 1), 0)] * 2)
                told.append((line, generator.random() < 0.2))
            deeds.append((name, told + [(("answer", 0), False)]))
        try:
            return CodeBook(2, 2, [[0]], [("cell", CELL)], [[("go", 1), ("hit", 0)], [("stay", 0)]], deeds)
        except BadBook:
            continue


def random_plain(generator, deeds, values=2, states=3):
    """A plain book in which each deed has 0 to 3 options."""
    choices = []
    for deed in deeds:
        for state in range(states):
            for argument in range(values):
                ways = [(goal, answer) for goal in range(states) for answer in range(values)]
                for goal, answer in generator.sample(ways, generator.randint(0, 3)):
                    choices.append((deed, state, argument, goal, answer))
    return PlainBook(states, generator.randrange(states), choices)


def random_marks(generator, deeds, ports):
    """Marks of all three forms, one of them perhaps of a deed that no book knows."""
    ways = [(), (1, 0), (1, 1), (0, "nobody", 0)]
    ways += [(0, deed, argument) for deed in deeds for argument in (0, 1)] * 2
    return tuple(generator.choice(ways) for _ in range(ports))


def random_row(generator, code, state, many):
    """A row of at most so many moves from a state."""
    row = []
    for _ in range(many):
        moves = moves_of(code, state)
        if not moves:
            break
        row.append(generator.choice(moves))
        state = after(code, state, row[-1])
    return row


def guessing_stock(generator, ports):
    """A stock whose plain book guesses at `pick` what comes next; its grade is 0, above 0 or None.

    In each state but 0 one of the other deeds may have the wrong answer, and the states never rise.
    """
    menu = [("pick", 0), ("hit", 0), ("down", 0)]
    deeds = [("pick", loose(("answer", 0))), ("hit", loose(("set", 0, 1), ("answer", 0))), ("down", loose(("answer", 0)))]
    states = generator.randint(4, 11)
    choices = []
    for state in range(states):
        wrong = generator.choice(["hit", "down", "hit", "down", ""]) if 0 < state < states - 1 else ""
        for deed, right in (("pick", 0), ("hit", 1), ("down", 0)):
            many = generator.choice([2, 2, 3]) if deed == "pick" else 1
            goals = generator.sample(range(max(1, state)), min(max(1, state), many))
            if deed != "pick" and generator.random() < 0.5:
                goals = [0]
            choices += [(deed, state, 0, goal, 1 - right if deed == wrong else right) for goal in goals]
    menus = [menu, [generator.choice(menu)]][:ports]
    return Stock(CodeBook(2, 1, [], [], menus, deeds), PlainBook(states, states - 1, choices))


def tiny_stock(generator):
    """A stock with a random plain book and random code, perhaps fused, of few states."""
    while True:
        code = random_code(generator)
        if 3 < len(code_states(code)) < 60:
            return Stock(code, random_plain(generator, ["go", "hit"], states=2))


def fused_tally():
    """The tally of two flags in which both reads are one move, so that its grade is None."""
    stock = tally([0, 1])
    code = stock.code
    count = [(instruction, instruction[0] != "answer" and at < 3) for at, (instruction, _) in enumerate(code.lines_of("count"))]
    return Stock(CodeBook(code.modulus, code.registers, code.rows, code.parts, code.ports,
                          [code.deeds[0], ("count", count)]), stock.plain)


def broken_tally():
    """The tally of two flags with a code that counts the first flag twice, so that its grade is 0."""
    stock = tally([0, 1])
    code = stock.code
    count = [(("read", 1, 0, 0) if instruction[0] == "read" else instruction, fused)
             for instruction, fused in code.lines_of("count")]
    return Stock(CodeBook(code.modulus, code.registers, code.rows, code.parts, code.ports,
                          [code.deeds[0], ("count", count)]), stock.plain)


def long_stairs(height):
    """The stairs of point 56, of any height up to 199."""
    choices = [("pick", 0, 0, 0, 0), ("hit", 0, 0, 0, 1), ("down", 0, 0, 0, 0)]
    for level in range(1, height + 1):
        top = 3 * level - 2
        choices += [("pick", top, 0, top + 1, 0), ("pick", top, 0, top + 2, 0), ("hit", top, 0, 0, 1), ("down", top, 0, 0, 0)]
        choices += [("pick", top + 1, 0, 0, 0), ("hit", top + 1, 0, 0, 0), ("down", top + 1, 0, 0, 0)]
        choices += [("pick", top + 2, 0, 0, 0), ("hit", top + 2, 0, 0, 1)]
        choices.append(("down", top + 2, 0, top - 3, 0) if level > 1 else ("down", top + 2, 0, 0, 1))
    return Stock(stairs(1).code, PlainBook(3 * height + 1, 3 * height - 2, choices))


def stocks_of_all_grades(seed, many):
    """Stocks with few pairs: a third has grade 0, a third a grade above 0, a third the grade None."""
    generator = random.Random(seed)
    quota = {"none": many // 3, "above": many // 3, "never": many // 3}
    found = []
    while any(quota.values()):
        stock = [guessing_stock(generator, 1), guessing_stock(generator, 2), tiny_stock(generator)][generator.randrange(3)]
        grade = grade_of(stock)
        kind = "never" if grade is None else "above" if grade else "none"
        if quota[kind] and len(pairs_of(stock)) < 80:
            quota[kind] -= 1
            found.append(stock)
    return found


def moves_for(stock):
    """Moves that may stand in a row, allowed by the code or not."""
    ports = stock.code.ports
    moves = [(0, port, item) for port, menu in enumerate(ports) for item in range(len(menu))]
    moves += [(1, port, 0) for port in range(len(ports))]
    return moves + [(2, port, value) for port in range(len(ports)) for value in (0, 1, 7)]


def random_script(generator, stock, depth):
    """A script whose rows may be impossible, and whose members need not be those of a front."""
    row = tuple(generator.choices(moves_for(stock), k=generator.randint(0, 4)))
    if generator.random() < 0.6:
        row = tuple(random_row(generator, stock.code, first_state(stock.code), generator.randint(0, 4)))
    many = generator.randint(0, 3) if depth else 0
    members = [(number, ((),) * len(stock.code.ports)) for number in range(many)]
    return (row, tuple((member, random_script(generator, stock, depth - 1)) for member in members))


def changed_script(generator, stock, script):
    """A script with one thing changed, somewhere in it."""
    row, children = script
    if children and generator.random() < 0.6:
        at = generator.randrange(len(children))
        member, child = children[at]
        return (row, (*children[:at], (member, changed_script(generator, stock, child)), *children[at + 1:]))
    at = generator.randint(0, len(row))
    one = (0, ((),) * len(stock.code.ports))
    ways = [(row[:at] + (generator.choice(moves_for(stock)),) + row[at:], children), (row[:at] + row[at + 1:], children),
            (row[::-1], children), (row, children[::-1]), (row, children[:-1]), (row, children[1:]), (row, children * 2),
            (row, (*children, (one, ((), ())))), (row, tuple((one, child) for _, child in children)), ((), ())]
    return generator.choice(ways)
