"""Two families of stocks whose grades are known."""

from oddskept.codebook import CodeBook
from oddskept.errors import Unfit
from oddskept.plainbook import PlainBook
from oddskept.stocks import Stock
from oddskept.wholedeeds import atomic


def stairs(height):
    """Return a stock whose grade is the height, from 1 to 6."""
    if not 1 <= height <= 6:
        raise Unfit("the height of stairs is 1 to 6")
    choices = _stair_choices(0, (0, 0), (0, 1), (0, 0))
    for level in range(1, height + 1):
        choices.extend(_level_choices(level))
    return Stock(_stair_code(), PlainBook(3 * height + 1, 3 * height - 2, choices))


def _stair_code():
    """Return the code of all stairs."""
    answer = (("answer", 0), False)
    deeds = [("pick", [answer]), ("hit", [(("set", 0, 1), False), answer]), ("down", [answer])]
    return CodeBook(2, 1, [], [], [[("pick", 0), ("hit", 0), ("down", 0)]], deeds)


def _level_choices(level):
    """Return the choices of the three states of one level."""
    top = 3 * level - 2
    below = (0, 1) if level == 1 else (top - 3, 0)
    choices = [("pick", top, 0, top + 1, 0)]
    choices.extend(_stair_choices(top, (top + 2, 0), (0, 1), (0, 0)))
    choices.extend(_stair_choices(top + 1, (0, 0), (0, 0), (0, 0)))
    choices.extend(_stair_choices(top + 2, (0, 0), (0, 1), below))
    return choices


def _stair_choices(state, pick, hit, down):
    """Return one choice for each deed at a state, each told as (next state, answer)."""
    return [("pick", state, 0, *pick), ("hit", state, 0, *hit), ("down", state, 0, *down)]


def tally(order):
    """Return a stock in which one port counts, in this order, the flags that the others raise."""
    if sorted(order) not in ([0, 1], [0, 1, 2]):
        raise Unfit("an order has the numbers 0 and 1, or 0, 1 and 2, each once")
    flags = len(order)
    ports = [[("raise", flag)] for flag in range(flags)] + [[("count", 0)]]
    deeds = [("raise", _plain_lines(_raise_lines())), ("count", _plain_lines(_count_lines(order)))]
    code = CodeBook(flags + 1, 3, [[0] * flags], [], ports, deeds)
    return Stock(code, atomic(code))


def _plain_lines(instructions):
    """Return the lines with these instructions, none of them fused."""
    return [(instruction, False) for instruction in instructions]


def _raise_lines():
    return [("set", 1, 1), ("write", 1, 0, 0, 0), ("answer", 1)]


def _count_lines(order):
    instructions = []
    for flag in order:
        instructions.append(("read", 1, 0, flag))
        instructions.append(("add", 2, 2, 1))
    instructions.append(("answer", 2))
    return instructions
