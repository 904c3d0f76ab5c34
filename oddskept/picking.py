"""Picks: small deeds of the threads of a hall, and the events that they bring about."""

from oddskept.changes import with_item
from oddskept.coderun import ANSWER, BEGIN, moves_at, play_move
from oddskept.errors import BadPlan
from oddskept.hall import CODE, picks_of
from oddskept.plainrun import ASKED, DONE, options_at
from oddskept.proglines import VALUES

WORDS = {"throw": "side", "print": "print"}


def coin_sides(hall, position, pick):
    """Return the number of sides of the coin that a pick throws, 0 if it throws none."""
    if not is_pick(hall, position, pick):
        raise BadPlan("the pick is not among those of the position")
    return sides_of(hall, position, pick)


def play_pick(hall, position, pick, side=0):
    """Return the next position and the event of a pick; the side is that of a coin, if it throws one."""
    if not is_pick(hall, position, pick):
        raise BadPlan("the pick is not among those of the position")
    return played(hall, position, pick, side)


def is_pick(hall, position, pick):
    """Tell whether two integers are among the picks of a position."""
    return 0 <= pick[0] < len(position[1]) and pick in picks_of(hall, position, pick[0])


def sides_of(hall, position, pick):
    """Return what `coin_sides` returns, for what is known to be a pick of the position."""
    instruction = _instruction_at(hall, position, pick[0])
    return instruction[2] if instruction[0] == "throw" else 0


def played(hall, position, pick, side):
    """Return what `play_pick` returns, for what is known to be a pick of the position."""
    thread, choice = pick
    if position[1][thread][2] != ():
        return _gone_on(hall, position, thread, choice)
    if _instruction_at(hall, position, thread)[0] == "call":
        return _begun(hall, position, thread)
    return _line_done(hall, position, thread, side)


def _instruction_at(hall, position, thread):
    """Return the instruction of the line at which a thread is."""
    return hall.program.threads[thread][position[1][thread][0]]


def _begun(hall, position, thread):
    """Return the position and the event behind the begin of a call."""
    mail, threads, objects = position
    line, registers, _ = threads[thread]
    _, _, number, port, source = _instruction_at(hall, position, thread)
    code = hall.stocks[number].code
    item = registers[source] % len(code.ports[port])
    state = objects[number]
    if hall.ways[number] == CODE:
        state = play_move(code, state, (BEGIN, port, item))
    else:
        state = (state[0], with_item(state[1], port, (ASKED, *code.ports[port][item])))
    threads = with_item(threads, thread, (line, registers, (number, port)))
    return (mail, threads, with_item(objects, number, state)), (thread, line, "begin", item)


def _gone_on(hall, position, thread, choice):
    """Return the position and the event behind a step, a take, an answer or an end."""
    mail, threads, objects = position
    line, registers, (number, port) = threads[thread]
    stock = hall.stocks[number]
    if hall.ways[number] == CODE:
        state, answer = _code_behind(stock.code, objects[number], port)
    else:
        state, answer = _plain_behind(stock, objects[number], port, choice)
    objects = with_item(objects, number, state)
    if answer is None:
        return (mail, threads, objects), None
    target = _instruction_at(hall, position, thread)[1]
    threads = with_item(threads, thread, (line + 1, with_item(registers, target, answer), ()))
    return (mail, threads, objects), (thread, line, "end", answer)


def _code_behind(code, state, port):
    """Return the state behind the move of a busy port, and the answer, None if it is a step."""
    move = moves_at(code, state, port)[0]
    answer = move[2] if move[0] == ANSWER else None
    return play_move(code, state, move), answer


def _plain_behind(stock, state, port, choice):
    """Return the plain state behind the end of a call or a take, and the answer, None if it is a take."""
    number, marks = state
    if marks[port][0] == DONE:
        return (number, with_item(marks, port, ())), marks[port][1]
    goal, answer = options_at(stock, state, port)[choice]
    return (goal, with_item(marks, port, (DONE, answer))), None


def _line_done(hall, position, thread, side):
    """Return the position and the event behind a line that is no call."""
    mail, threads, objects = position
    line, registers, _ = threads[thread]
    instruction = _instruction_at(hall, position, thread)
    word = instruction[0]
    following, number = line + 1, 0
    if word == "jump":
        following = _line_behind_jump(instruction, registers, line)
    elif word in ("leave", "send", "print"):
        number = registers[instruction[1]]
    else:
        action = ACTIONS[word]
        number = action(instruction, registers, mail, side)
        registers = with_item(registers, instruction[1], number)
    if word in ("leave", "send"):
        mail = with_item(mail, instruction[2], number)
    if word == "fetch":
        mail = with_item(mail, instruction[2], 0)
    threads = with_item(threads, thread, (following, registers, ()))
    return (mail, threads, objects), (thread, line, WORDS.get(word, "own"), number)


def _line_behind_jump(instruction, registers, line):
    """Return the line to which a jump at this line goes on."""
    if len(instruction) == 2 or registers[instruction[2]] != 0:
        return instruction[1]
    return line + 1


def _set(instruction, registers, mail, side):
    return instruction[2]


def _copy(instruction, registers, mail, side):
    return registers[instruction[2]]


def _add(instruction, registers, mail, side):
    return (registers[instruction[2]] + registers[instruction[3]]) % VALUES


def _less(instruction, registers, mail, side):
    return 1 if registers[instruction[2]] < registers[instruction[3]] else 0


def _same(instruction, registers, mail, side):
    return 1 if registers[instruction[2]] == registers[instruction[3]] else 0


def _from_mail(instruction, registers, mail, side):
    return mail[instruction[2]]


def _thrown(instruction, registers, mail, side):
    return side % instruction[2]


# What the register of the instruction gets.
ACTIONS = {
    "set": _set,
    "copy": _copy,
    "add": _add,
    "less": _less,
    "same": _same,
    "look": _from_mail,
    "fetch": _from_mail,
    "throw": _thrown,
}
