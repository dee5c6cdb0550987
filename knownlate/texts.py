"""The text of a machine, line by line (points [67] to [69])."""

from knownlate.errors import BadFaults, BadSteps, NotLive, NotText, TooMany
from knownlate.machines import Machine
from knownlate.values import is_name

START = "start"
FAULT = "fault"
DIGITS = "0123456789"
MOST_DIGITS = 2


def machine_text(machine):
    """The text of a machine: the line of the start, the lines of the steps, and the lines of the words of faults."""
    lines = [f"{START} {machine.start}"]
    lines.extend([f"{source} {word} {target}" for source, word, target in machine.steps])
    lines.extend([f"{FAULT} {word} {name}" for word, name in machine.faults.items()])
    return "\n".join(lines)


def read_machine(text):
    """The machine whose text this is."""
    if not isinstance(text, str):
        raise NotText(0, "")
    rows = [line.split(" ") for line in text.split("\n")]
    check_rows_of_lines(rows)
    steps = [(int(row[0]), row[1], int(row[2])) for row in rows[1:] if row[0] != FAULT]
    faults = {row[1]: row[2] for row in rows[1:] if row[0] == FAULT}
    try:
        return Machine(int(rows[0][1]), steps, faults)
    except BadSteps as wrong_steps:
        raise NotText(0, "BadSteps") from wrong_steps
    except TooMany as too_many:
        raise NotText(0, "TooMany") from too_many
    except BadFaults as wrong_faults:
        raise NotText(0, "BadFaults") from wrong_faults
    except NotLive as not_live:
        raise NotText(0, "NotLive") from not_live


def check_rows_of_lines(rows):
    """Raises NotText for the first line whose parts do not have the form that belongs to its place."""
    # The word of the last fault line; no word is less than the empty string.
    last = ""
    for at, row in enumerate(rows):
        if at == 0:
            right = is_start_row(row)
        elif is_fault_row(row):
            right = row[1] > last
            last = row[1]
        else:
            right = is_step_row(row) and last == ""
        if not right:
            raise NotText(at + 1, "")


def is_start_row(row):
    """Whether the parts of a line are those of the line of the start."""
    return len(row) == 2 and row[0] == START and is_state_text(row[1])


def is_step_row(row):
    """Whether the parts of a line are those of the line of a step."""
    return len(row) == 3 and is_state_text(row[0]) and is_name(row[1]) and is_state_text(row[2])


def is_fault_row(row):
    """Whether the parts of a line are those of the line of a word of a fault."""
    return len(row) == 3 and row[0] == FAULT and is_name(row[1]) and is_name(row[2])


def is_state_text(part):
    """Whether a string is a state, written with decimal digits and without leading zeros."""
    if not 1 <= len(part) <= MOST_DIGITS or not all([digit in DIGITS for digit in part]):
        return False
    return len(part) == 1 or part[0] != "0"
