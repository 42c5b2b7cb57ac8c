"""Programs run by a machine: its state is moved on, step by step, and runs are chosen by the tables."""

from bestcalls.errors import TooDeep, TooLong
from bestcalls.programs import steps_in
from bestcalls.same import cell_at
from bestcalls.tables import tables_of
from bestcalls.walker import MOST_BEGUN, MOST_LASTING, check_asked, kinds_of, picked, rule_by
from bestcalls.webs import names_of


def cell_in(program, tables, deed, kinds):
    """The cell (answer, onwards) of the deed's table for these kinds."""
    groups, cells = {name: (groups, cells) for name, groups, cells in tables}[deed]
    return cell_at(names_of(program[0]), groups, cells, kinds)


def frame_of_call(program, tables, deed, things):
    """The frame of a new run of the deed with the things; refused with NoFit or with Quarrel."""
    kinds = kinds_of(things)
    answer, onwards = cell_in(program, tables, deed, kinds)
    return (deed, rule_by(deed, kinds, answer), things, 0, 0)


def frame_of_onward(program, tables, frame):
    """The frame of a new run onward from that of the frame, or None; refused with Quarrel."""
    deed, rule, things, number, total = frame
    kinds = kinds_of(things)
    answer, onwards = cell_in(program, tables, deed, kinds)
    farther = dict(onwards)[rule]
    if farther[0] == "none":
        return None
    return (deed, rule_by(deed, kinds, farther), things, 0, 0)


def new_frame(program, tables, frame, step):
    """The frame that the step of the frame's run puts behind, or None."""
    if step[0] == "call":
        return frame_of_call(program, tables, step[1], picked(frame[2], step[2]))
    if step[0] == "onward":
        return frame_of_onward(program, tables, frame)
    return None


def begun_frame(frame, step):
    """The frame behind the begin of its next step: what say and tell give is added."""
    deed, rule, things, number, total = frame
    if step[0] == "say":
        total += step[1]
    if step[0] == "tell":
        total += things[step[1]][1]
    return (deed, rule, things, number + 1, total)


def state_with_step(program, tables, state, step):
    """The state behind the next step of its last frame; refused with TooLong ahead of all, with TooDeep behind all."""
    frames, met, begun, whole = state
    if begun >= MOST_BEGUN:
        raise TooLong(None)
    behind = new_frame(program, tables, frames[-1], step)
    told = frames[:-1] + [begun_frame(frames[-1], step)]
    if behind is None:
        return (told, list(met), begun + 1, None)
    if len(frames) >= MOST_LASTING:
        raise TooDeep(None)
    return (told + [behind], met + [behind[:2]], begun + 1, None)


def state_with_end(state):
    """The state behind the end of its last frame, whose sum goes to the frame ahead of it, or is the whole sum."""
    frames, met, begun, whole = state
    given = frames[-1][4]
    if len(frames) == 1:
        return ([], list(met), begun, given)
    deed, rule, things, number, total = frames[-2]
    return (frames[:-2] + [(deed, rule, things, number, total + given)], list(met), begun, None)


def start(program, tables, deed, things):
    """The state with which the deed begins with the things: one frame, no step begun."""
    check_asked(program, deed, things)
    frame = frame_of_call(program, tables, deed, tuple(things))
    return ([frame], [frame[:2]], 0, None)


def move(program, tables, state):
    """The state behind one move of the machine; one without frames stays as it is."""
    frames, met, begun, whole = state
    if not frames:
        return ([], list(met), begun, whole)
    deed, rule, things, number, total = frames[-1]
    steps = steps_in(program, deed, rule)
    if number >= len(steps):
        return state_with_end(state)
    return state_with_step(program, tables, state, steps[number])


def machine(program, deed, things):
    """The sum of a run of the deed with the things, and a list of (deed, rule) for each run, by moves."""
    tables = tables_of(program)
    state = start(program, tables, deed, things)
    while state[0]:
        state = move(program, tables, state)
    frames, met, begun, whole = state
    return (whole, met)
