"""Conditions: functions that are handed a state and tell True or False."""

from stoke.bits import has_room


def colder(room, band):
    return lambda state: state[0][room] < band


def burns(room):
    return lambda state: has_room(state[1], room)


def rested(room):
    return lambda state: state[2][room] == 0


def stocked(wood):
    return lambda state: state[4] >= wood


def both_of(one, other):
    return lambda state: one(state) and other(state)


def one_of(one, other):
    return lambda state: one(state) or other(state)


def unlike(one):
    return lambda state: not one(state)
