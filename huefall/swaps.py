"""Swaps of neighbouring moves at independent lamps, and the smallest run that they lead to."""

from huefall.house import check_run


def is_swap(house, first, second):
    """True if swaps turn one of the two runs into the other."""
    return sorted_form(house, first) == sorted_form(house, second)


def sorted_form(house, run):
    """The smallest list among all swaps of the run."""
    check_run(house, run)
    lamps = range(house.count)
    rivals = [[other for other in lamps if house.is_comparable(lamp, other)] for lamp in lamps]
    waiting = places_of_moves(house, run)
    form = []
    while len(form) < len(run):
        chosen = next_lamp(waiting, rivals)
        waiting[chosen].pop()
        form.append(chosen)
    return form


def neighbours(house, run):
    """All runs that one swap gives, in the order of the index of the first of the two moves."""
    check_run(house, run)
    found = []
    for index in range(len(run) - 1):
        first = run[index]
        second = run[index + 1]
        if first != second and not house.is_comparable(first, second):
            found.append(run[:index] + [second, first] + run[index + 2:])
    return found


def places_of_moves(house, run):
    """For each lamp the indexes of its moves, the last one first, so that `pop` takes the first."""
    places = [[] for _ in range(house.count)]
    for index in reversed(range(len(run))):
        places[run[index]].append(index)
    return places


def next_lamp(waiting, rivals):
    """The smallest lamp whose first remaining move has no earlier remaining move of a rival."""
    for lamp in range(len(waiting)):
        if waiting[lamp] and is_first(waiting, lamp, rivals[lamp]):
            return lamp
    return None


def is_first(waiting, lamp, rivals):
    """True if the lamp's first remaining move comes before all remaining moves of the rivals."""
    index = waiting[lamp][-1]
    for rival in rivals:
        if waiting[rival] and waiting[rival][-1] < index:
            return False
    return True
