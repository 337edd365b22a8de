"""Calm: turns given round by round until no hand is awake, and how many turns there are at most."""

from retryhall.hall import rows_of_hands


def is_calm(hall):
    return all([hall.state(hand) != "awake" for hand in range(hall.hands())])


def calmed(hall):
    told = []
    while not is_calm(hall):
        for hand in range(hall.hands()):
            if hall.state(hand) == "awake":
                told.append((hand, hall.turn(hand)))
    return told


def most(hands):
    crew = rows_of_hands(hands)
    deeds_of_all = sum([len(deeds) for deeds in crew])
    return sum([rows_in(deeds) * (1 + deeds_of_all - len(deeds)) for deeds in crew])


def rows_in(deeds):
    return sum([len(rows) for rows in deeds])
