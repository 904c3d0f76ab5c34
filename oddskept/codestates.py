"""The states that a code book reaches."""

from oddskept.coderun import first_state, moves_of, play_move


def code_states(code):
    """Return the list of the reached states, breadth-first."""
    states = [first_state(code)]
    seen = set(states)
    at = 0
    while at < len(states):
        state = states[at]
        for move in moves_of(code, state):
            goal = play_move(code, state, move)
            if goal not in seen:
                seen.add(goal)
                states.append(goal)
        at += 1
    return states
