"""Lots as tuples of seats, and how often each place is a difference of two of them. Nothing is checked here."""

from ringvoices.places import added, repeated


def difference_table(floor):
    """For the seats of two places the seat of the first one less the second one."""
    seats = floor.seats()
    backs = [repeated(floor.rings, place, -1) for place in floor.places]
    return [[seats[added(floor.rings, place, back)] for back in backs] for place in floor.places]


def counted(table, lot):
    """How often each place is a difference of two places of a lot, one place twice among them."""
    many = [0] * len(table)
    for one in lot:
        for other in lot:
            many[table[one][other]] += 1
    return many


def seats_of(floor, places):
    """The seats of places, in order."""
    seats = floor.seats()
    return [seats[place] for place in places]


def places_at(floor, lot):
    """The places at seats, in order."""
    return tuple([floor.places[seat] for seat in lot])
