"""The instructions of code books: their forms, their texts, and which line may follow which.

What does not depend on the forms serves the instructions of programs, too.
"""

from oddskept.words import is_name, numbers_of

# One letter for each operand: r is a register, j a row, k a place, n a value, i a part, D a name, l a line.
FORMS = {
    "read": ("rjk", "rjkr"),
    "write": ("rjk", "rjkr"),
    "swap": ("rjk", "rjkr"),
    "test": ("rrrjk", "rrrjkr"),
    "count": ("rnjk", "rnjkr"),
    "use": ("riDr",),
    "set": ("rn",),
    "copy": ("rr",),
    "add": ("rrr",),
    "less": ("rrr",),
    "same": ("rrr",),
    "jump": ("l", "lr"),
    "answer": ("r",),
}

# The words of the instructions that touch no cell and no part.
LOCAL = ("set", "copy", "add", "less", "same", "jump")


def form_of(word, count):
    """Return the form of an instruction with this word and so many operands, None if there is none."""
    return fitting(FORMS.get(word, ()), count)


def fitting(forms, count):
    """Return the form for so many operands, None if there is none."""
    for form in forms:
        if len(form) == count:
            return form
    return None


def moved(instruction, shifts):
    """Return an instruction of a code book with its operands raised, for each letter by what `shifts` tells."""
    form = form_of(instruction[0], len(instruction) - 1)
    operands = [operand + shifts[letter] if letter in shifts else operand
                for letter, operand in zip(form, instruction[1:])]
    return (instruction[0], *operands)


def followers(instructions, at):
    """Return the tuple of the lines that can come directly behind line number `at` of a deed or a thread."""
    word = instructions[at][0]
    if word in ("answer", "stop"):
        return ()
    if word == "jump" and len(instructions[at]) == 2:
        return (instructions[at][1],)
    if word == "jump":
        return (instructions[at][1], at + 1)
    return (at + 1,)


def have_ring(instructions, lines):
    """Tell whether some of the given lines alone form a ring."""
    left = {line: True for line in lines}
    before = len(left) + 1
    # A line none of whose followers is left lies on no ring. Lines are taken away from the
    # back, because most are followed by the next one, until each line left has a follower left.
    while len(left) < before:
        before = len(left)
        for line in reversed(list(left)):
            if not any([follower in left for follower in followers(instructions, line)]):
                del left[line]
    return len(left) > 0


def closes_ring(instructions, marks, line):
    """Tell whether a line forms a ring with marked ones; no ring is marked so far."""
    seen = {}
    waiting = [line]
    while waiting:
        for one in followers(instructions, waiting.pop()):
            if one == line:
                return True
            if marks[one] and one not in seen:
                seen[one] = True
                waiting.append(one)
    return False


def write_instruction(instruction):
    """Return the words of an instruction with blanks between them."""
    return " ".join([str(word) for word in instruction])


def read_instruction(words):
    """Return the instruction that is written with these words, None if there is none."""
    return read_as(form_of(words[0], len(words) - 1), words) if words else None


def read_as(form, words):
    """Return the instruction that is written with these words, None if it has not this form or the form is None."""
    if form is None:
        return None
    operands = [_operand(letter, word) for letter, word in zip(form, words[1:])]
    return None if None in operands else (words[0], *operands)


def _operand(letter, word):
    """Return the operand that a word tells, None if it has not the form that the letter asks for."""
    if letter == "D":
        return word if is_name(word) else None
    numbers = numbers_of([word])
    return None if numbers is None else numbers[0]
