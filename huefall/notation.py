"""The written forms of houses, states and runs, and how they are read."""

from huefall.errors import InvalidHouse, InvalidText
from huefall.house import House, are_lamps, check_run, is_lamp
from huefall.states import check_state, is_state

DIGITS = "0123456789"
EMPTY_RUN = "-"


def house_text(house):
    """The lines of a house: its size, then the lamps directly beneath each lamp that has some."""
    lines = [f"house {house.count} {house.hues}"]
    for upper in range(house.count):
        lowers = house.direct(upper)
        if lowers:
            lines.append(f"{upper} > {spaced(lowers)}")
    return "\n".join(lines)


def state_text(house, state):
    """One digit for each lamp, its hue."""
    check_state(house, state)
    return "".join([str(hue) for hue in state])


def run_text(house, run):
    """The lamps of the run separated by single spaces."""
    check_run(house, run)
    return spaced(run) if run else EMPTY_RUN


def read_house(text):
    """The house that the text is the written form of."""
    lines = text.split("\n")
    house = read_size(lines[0])
    wires = []
    last_upper = -1
    for line_number, line in enumerate(lines[1:], start=2):
        upper, lowers = read_wires(house, line, line_number)
        if upper <= last_upper:
            raise InvalidText(line_number)
        last_upper = upper
        wires.extend([(upper, lower) for lower in lowers])
        house = made_house(house.count, house.hues, wires, line_number)
    return house


def read_state(house, text):
    """The state that the text is the written form of."""
    state = tuple([DIGITS.find(character) for character in text])
    if not is_state(house, state):
        raise InvalidText(1)
    return state


def read_run(house, text):
    """The run that the text is the written form of."""
    if text == EMPTY_RUN:
        return []
    run = [read_number(word) for word in text.split(" ")]
    if not are_lamps(house, run):
        raise InvalidText(1)
    return run


def spaced(numbers):
    """The numbers in digits, separated by single spaces."""
    return " ".join([str(number) for number in numbers])


def read_number(word):
    """The number that the word is the written form of, or None. It has at most two digits."""
    if len(word) not in (1, 2) or (len(word) == 2 and word[0] == "0"):
        return None
    number = 0
    for character in word:
        digit = DIGITS.find(character)
        if digit < 0:
            return None
        number = number * 10 + digit
    return number


def read_size(line):
    """The house without wires that the first line of a house text tells."""
    words = line.split(" ")
    if len(words) != 3 or words[0] != "house":
        raise InvalidText(1)
    return made_house(read_number(words[1]), read_number(words[2]), [], 1)


def read_wires(house, line, line_number):
    """The upper lamp and the lower lamps that a later line of a house text tells."""
    words = line.split(" ")
    if len(words) < 3 or words[1] != ">":
        raise InvalidText(line_number)
    upper = read_number(words[0])
    lowers = [read_number(word) for word in words[2:]]
    if not is_lamp(house, upper) or not are_lamps(house, lowers):
        raise InvalidText(line_number)
    if lowers != sorted(set(lowers)):
        raise InvalidText(line_number)
    return upper, lowers


def made_house(count, hues, wires, line_number):
    """The house of these parts. If they are not valid, the line with this number is not right."""
    try:
        return House(count, hues, wires)
    except InvalidHouse:
        raise InvalidText(line_number) from None
