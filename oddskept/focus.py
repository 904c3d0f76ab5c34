"""What a scheduler has to look at for the best odds."""

from oddskept.eager import EagerLines
from oddskept.instructions import followers
from oddskept.picking import played
from oddskept.rings import all_ahead, knots


class Focus:
    """The threads, mail cells and objects of a hall that still matter at a position.

    Numbers are printed by threads that have a print ahead. So these matter, and so does, as long as it has any
    effect on what matters, each mail cell, each object and each further thread. What does not matter any more never
    does again.
    """

    def __init__(self, hall):
        self._hall = hall
        self._eager = EagerLines(hall)
        # For each thread and line, a bit for each mail cell and each object that is felt from there on, and for
        # each one that is changed; the last bit stands for what is printed.
        self._felt = []
        self._changed = []
        for thread in hall.program.threads:
            follow = [followers(thread, line) for line in range(len(thread))]
            groups = knots(follow)
            masks = [_masks_of(hall.program, instruction) for instruction in thread]
            self._felt.append(all_ahead(follow, groups, [felt for felt, _ in masks]))
            self._changed.append(all_ahead(follow, groups, [changed for _, changed in masks]))
        self._idle = {}

    def settled(self, position):
        """Do the picks that may be done at once; return them, and the position behind them without what is idle."""
        picks = []
        position = self._without_idle(position)
        pick = self._eager.pick_at(position)
        while pick is not None:
            picks.append(pick)
            position, _ = played(self._hall, position, pick, 0)
            position = self._without_idle(position)
            pick = self._eager.pick_at(position)
        return tuple(picks), position

    def _without_idle(self, position):
        """Return a position with None for the threads and objects, and 0 for the mail cells, that do not matter."""
        mail, threads, objects = position
        lines = tuple([None if one is None else one[0] for one in threads])
        if lines not in self._idle:
            self._idle[lines] = self._idle_at(lines)
        idle_threads, idle_cells, idle_objects = self._idle[lines]
        threads = _blanked(threads, idle_threads, None)
        return (_blanked(mail, idle_cells, 0), threads, _blanked(objects, idle_objects, None))

    def _idle_at(self, lines):
        """Return the threads, the cells and the objects that do not matter while the threads are at these lines."""
        program = self._hall.program
        felt = 1 << (program.mail + program.objects)
        left = [thread for thread, line in enumerate(lines) if line is not None]
        found = left
        while found:
            found = [thread for thread in left if self._changed[thread][lines[thread]] & felt]
            for thread in found:
                felt |= self._felt[thread][lines[thread]]
            left = [thread for thread in left if thread not in found]
        cells = [cell for cell in range(program.mail) if not (felt >> cell) & 1]
        objects = [number for number in range(program.objects) if not (felt >> (program.mail + number)) & 1]
        return left, cells, objects


def _masks_of(program, instruction):
    """Return the bits of what the deeds of a line feel, and of what they change."""
    word = instruction[0]
    if word == "print":
        return 0, 1 << (program.mail + program.objects)
    if word == "call":
        mask = 1 << (program.mail + instruction[2])
        return mask, mask
    if word not in ("look", "leave", "send", "fetch"):
        return 0, 0
    mask = 1 << instruction[2]
    return 0 if word == "leave" else mask, 0 if word == "look" else mask


def _blanked(row, at, blank):
    """Return a tuple with something else at some indexes."""
    if all([row[index] == blank for index in at]):
        return row
    kept = list(row)
    for index in at:
        kept[index] = blank
    return tuple(kept)
