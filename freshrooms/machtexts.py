"""Machines written as lines, and read from them [9]."""

from freshrooms.errors import NoText
from freshrooms.machines import is_machine
from freshrooms.rowtexts import is_number_text

# No number of a machine has more, and Python refuses to read very long ones.
MOST_FIGURES = 2


def show_machine(machine):
    lines = [" ".join(["signs"] + machine[0])]
    for room in machine[1]:
        lines.append(show_room(room))
        lines.extend([show_step(step) for step in room[2]])
    return "\n".join(lines)


def show_room(room):
    keepers = room[0]
    return f"room {keepers} good" if room[1] else f"room {keepers}"


def show_step(step):
    words = [step[0], str(step[1]), str(step[2])]
    return " ".join(words + [show_fill(fill) for fill in step[3]])


def show_fill(fill):
    return "none" if fill is None else str(fill)


def read_machine(text):
    lines = [line.split(" ") for line in text.split("\n")]
    if lines[0][0] != "signs":
        raise NoText("the first line is signs and the signs")
    machine = (lines[0][1:], read_rooms(lines[1:]))
    # Read word by word there is but one text for each machine, so what is left to ask is whether it is one.
    if not is_machine(machine):
        raise NoText("the lines tell no machine")
    return machine


def read_rooms(lines):
    rooms = []
    for words in lines:
        if is_room_line(words):
            rooms.append(read_room(words))
        elif len(rooms) == 0:
            raise NoText("a step stands behind the line of its room")
        else:
            rooms[-1][2].append(read_step(words))
    return rooms


def is_room_line(words):
    # A step has a number as its third word, so a step whose sign is called room is told from a room by it.
    return words[0] == "room" and (len(words) == 2 or words[2:] == ["good"])


def read_room(words):
    return (read_number(words[1]), len(words) == 3, [])


def read_step(words):
    if len(words) < 3:
        raise NoText("a line is room KEEPERS, perhaps with good behind, or SIGN ASKS TO with the fills")
    return (words[0], read_ask(words[1]), read_number(words[2]), tuple([read_fill(word) for word in words[3:]]))


def read_ask(word):
    return word if word in ("fresh", "any") else read_number(word)


def read_fill(word):
    if word == "none":
        return None
    return word if word == "new" else read_number(word)


def read_number(word):
    if not is_number_text(word) or len(word) > MOST_FIGURES:
        raise NoText("a number is written in figures without noughts ahead, and below a hundred in a machine")
    return int(word)
