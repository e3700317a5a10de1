"""Drawings of any hand: how a row is read as wires, and what is wrong of them.

A drawing is a list of wires; a wire is a list of corners, each as (x, y).
"""


def read_wires(row):
    """The wires that the row tells, None if a count is below 0 or the row ends before its corners do."""
    wires = []
    place = 0
    while place < len(row):
        count = row[place]
        end = place + 1 + 2 * count
        if count < 0 or end > len(row):
            return None
        wires.append([(row[k], row[k + 1]) for k in range(place + 1, end, 2)])
        place = end
    return wires


def what_is_wrong(lower, upper, h, wires):
    """The first thing that is wrong of the drawing, as numbers: its kind, then the net or the two nets."""
    if len(wires) != len(lower):
        return [1]
    for net, corners in enumerate(wires):
        if not joins(corners, (lower[net], 0), (upper[net], h + 1)):
            return [2, net]
    for net, corners in enumerate(wires):
        if not keeps_to_tracks(corners, h):
            return [3, net]
    pair = first_meeting(wires)
    return [0] if pair is None else [4, pair[0], pair[1]]


def joins(corners, lower_pin, upper_pin):
    """Whether the corners are a wire from the one point to the other."""
    if len(corners) < 2 or corners[0] != lower_pin or corners[-1] != upper_pin:
        return False
    return all([is_straight(one, other) for one, other in zip(corners, corners[1:])])


def is_straight(one, other):
    """Whether two corners are different points beside or above one another."""
    return (one[0] == other[0]) != (one[1] == other[1])


def keeps_to_tracks(corners, h):
    return all([1 <= y <= h for x, y in corners[1:-1]])


def first_meeting(wires):
    """The first two wires that have a point in common, as (lesser number, greater number); None if none have.

    Where straight pieces meet, they do so in a point whose x is some corner's and whose y is some corner's. So
    only such points are looked at: the places of a grid with a column for each x and a row for each y.
    """
    columns = ranks([x for x, y in all_corners(wires)])
    rows = ranks([y for x, y in all_corners(wires)])
    width = len(columns)
    holders = [None] * (width * len(rows))
    pair = None
    for number, corners in enumerate(wires):
        places = [rows[y] * width + columns[x] for x, y in corners]
        met = hold_places(holders, width, places, number)
        # A later wire comes ahead of an earlier one only by a lesser one that it meets.
        if met is not None and (pair is None or met < pair[0]):
            pair = (met, number)
    return pair


def all_corners(wires):
    corners = []
    for wire in wires:
        corners.extend(wire)
    return corners


def ranks(numbers):
    """A dict that tells of each number how many lesser ones there are, several alike counting once."""
    ranked = {}
    for number in sorted(set(numbers)):
        ranked[number] = len(ranked)
    return ranked


def hold_places(holders, width, places, number):
    """Gives all free grid places from each of these places to the next one to the wire of that number.

    Answers the least other number that holds one of them, None if no other one does. The wires come by rising
    numbers, so that a place is held by the least wire that has it.
    """
    met = number
    for one, other in zip(places, places[1:]):
        step = 1 if one // width == other // width else width
        for place in range(min(one, other), max(one, other) + 1, step):
            if holders[place] is None:
                holders[place] = number
            elif holders[place] < met:
                met = holders[place]
    return met if met < number else None
