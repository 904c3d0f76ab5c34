"""Programs: threads that compute, throw coins, print numbers and call objects."""

from oddskept.errors import BadProgram
from oddskept.instructions import followers
from oddskept.proglines import program_form, program_ranges
from oddskept.rings import knots, most_ahead

MOST_MAIL = 64
MOST_OBJECTS = 4
MOST_THREADS = 33
MOST_LINES = 16000


class Program:
    """The mail cells, the objects and the threads of a program."""

    def __init__(self, mail, objects, threads):
        self.mail = mail
        self.objects = objects
        self.threads = tuple([tuple([tuple(instruction) for instruction in thread]) for thread in threads])
        if not 0 <= mail <= MOST_MAIL or not 0 <= objects <= MOST_OBJECTS:
            raise BadProgram("the number of mail cells or of objects is out of range")
        if not 1 <= len(self.threads) <= MOST_THREADS:
            raise BadProgram("the number of threads is out of range")
        if not all([_is_sound_thread(self, thread) for thread in self.threads]):
            raise BadProgram("a thread has lines that do not fit")
        if _share_a_port(self.threads):
            raise BadProgram("two threads call the same port")
        self._ahead = [_throws_ahead(thread) for thread in self.threads]

    def throws_ahead(self, thread, line):
        """Return the most throws on a sequence of lines of a thread that begins at this line."""
        return self._ahead[thread][line]


def most_throws(program):
    """Return the sum, over the threads, of the most throws on a sequence of lines from line 0 on."""
    return sum([program.throws_ahead(thread, 0) for thread in range(len(program.threads))])


def _is_sound_thread(program, thread):
    """Tell whether the lines of a thread keep to their bounds and come to an end."""
    if not 1 <= len(thread) <= MOST_LINES:
        return False
    ranges = program_ranges(program.mail, program.objects, len(thread))
    if not all([_is_sound_line(instruction, ranges) for instruction in thread]):
        return False
    return len(thread) not in followers(thread, len(thread) - 1)


def _is_sound_line(instruction, ranges):
    """Tell whether an instruction has a known form and operands within their ranges."""
    form = program_form(instruction[0], len(instruction) - 1)
    if form is None:
        return False
    for letter, operand in zip(form, instruction[1:]):
        least, beyond = ranges[letter]
        if not least <= operand < beyond:
            return False
    return True


def _share_a_port(threads):
    """Tell whether calls of two threads name the same port of the same object."""
    callers = {}
    for number, thread in enumerate(threads):
        for instruction in thread:
            if instruction[0] == "call" and callers.setdefault(instruction[2:4], number) != number:
                return True
    return False


def _throws_ahead(thread):
    """Return, for each line, the most throws on a sequence of lines from there on; refuse a throw on a ring."""
    marked = [instruction[0] == "throw" for instruction in thread]
    if True not in marked:
        return [0] * len(thread)
    follow = [followers(thread, line) for line in range(len(thread))]
    groups = knots(follow)
    for group in groups:
        # A throw goes on to the following line, so it is no ring by itself.
        if len(group) > 1 and any([marked[line] for line in group]):
            raise BadProgram("a throw lies on a ring")
    return most_ahead(follow, groups, marked)
