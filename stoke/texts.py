"""Texts: whole numbers, fractions, bits and holds, written and read."""

from stoke.bits import bits_of, members
from stoke.errors import NoLine, NoName, NoText, Twice
from stoke.holds import Hold
from stoke.ratios import NOUGHT, divisor, under

FIGURES = "0123456789"
LETTERS = "abcdefghijklmnopqrstuvwxyz"
MOST_FIGURES = 30
MOST_LETTERS = 8
WORDS_OF_LINES = {"bounds": 4, "sky": 5, "flow": 4, "stove": 6}
LEAST_WORDS_OF_ROOM = 4


def read_whole(text):
    if not 1 <= len(text) <= MOST_FIGURES or not all([sign in FIGURES for sign in text]):
        raise NoText("a whole number has one to thirty figures and nothing else")
    if text.startswith("0") and len(text) > 1:
        raise NoText("a nought stands ahead")
    return int(text)


def read_fraction(text):
    below = text.startswith("-")
    written, slash, beneath = (text[1:] if below else text).partition("/")
    top = read_whole(written)
    if below and top == 0:
        raise NoText("nought has no sign")
    bottom = 1
    if slash == "/":
        bottom = read_whole(beneath)
        if bottom < 2 or divisor(top, bottom) > 1:
            raise NoText("the fraction is not in lowest terms, or is a whole number")
    return (-top if below else top, bottom)


def show_fraction(one):
    top, bottom = one
    return f"{top}" if bottom == 1 else f"{top}/{bottom}"


def read_bits(text, names):
    if text == "-":
        return 0
    words = text.split("+")
    if not all([word in names for word in words]):
        raise NoText("that is the name of no room")
    rooms = [names.index(word) for word in words]
    if not all([one < other for one, other in zip(rooms, rooms[1:])]):
        raise NoText("the rooms are not each once in the order of the list")
    return bits_of(rooms)


def show_bits(bits, names):
    return "-" if bits == 0 else "+".join([names[room] for room in members(bits)])


def is_name(word):
    return 1 <= len(word) <= MOST_LETTERS and all([sign in LETTERS for sign in word])


def look_at_new_name(word):
    if not is_name(word):
        raise NoName("a name is one to eight small letters")


def room_called(word, names):
    if word not in names:
        raise NoName("no room has that name")
    return names.index(word)


def is_line_of_hold(words):
    if words[0] == "room":
        return len(words) >= LEAST_WORDS_OF_ROOM
    return WORDS_OF_LINES.get(words[0]) == len(words)


def read_hold(lines):
    hold = Hold()
    names = []
    for place, line in enumerate(lines):
        words = line.split(" ")
        if not is_line_of_hold(words) or (words[0] == "bounds" and place > 0):
            raise NoLine("that is no line of a hold")
        if words[0] == "bounds":
            hold = bounded_hold(words)
        else:
            put_line(hold, names, words)
    return (hold, names)


def bounded_hold(words):
    most, cap, load = [read_whole(word) for word in words[1:]]
    return Hold(most, cap, load)


# The words are those of a line of a hold, but for its bounds.
def put_line(hold, names, words):
    if words[0] == "room":
        put_named_room(hold, names, words)
        return
    room = room_called(words[1], names)
    if words[0] == "sky":
        share, low, high = [read_fraction(word) for word in words[2:]]
        hold.put_sky(room, share, low, high)
    elif words[0] == "flow":
        of = room_called(words[2], names)
        hold.put_flow(room, of, read_fraction(words[3]))
    else:
        heat = read_fraction(words[2])
        wood, stay, fails = [read_whole(word) for word in words[3:]]
        hold.put_stove(room, heat, wood, stay, fails)


def put_named_room(hold, names, words):
    look_at_new_name(words[1])
    if words[1] in names:
        raise Twice("a room has that name already")
    hold.put_room([read_fraction(word) for word in words[2:]])
    names.append(words[1])


def show_hold(hold, names):
    rooms = list(range(hold.many()))
    lines = [line_of("bounds", [], [], [hold.most, hold.cap, hold.load])]
    lines.extend([line_of("room", [names[room]], hold.marks(room), []) for room in rooms])
    lines.extend([line_of("sky", [names[room]], list(hold.sky(room)), []) for room in rooms])
    for into in rooms:
        for of in rooms:
            if into != of and under(NOUGHT, hold.share(into, of)):
                lines.append(line_of("flow", [names[into], names[of]], [hold.share(into, of)], []))
    for room in rooms:
        if hold.stove(room) is not None:
            heat, wood, stay, fails = hold.stove(room)
            lines.append(line_of("stove", [names[room]], [heat], [wood, stay, fails]))
    return lines


def line_of(word, names, fractions, wholes):
    return " ".join([word] + names + [show_fraction(one) for one in fractions] + [str(one) for one in wholes])
