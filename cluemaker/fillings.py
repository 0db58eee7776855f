"""Fillings as texts, and texts as fillings."""

from cluemaker.errors import NoFilling

# each sign's figure stands at the sign's own number; at 0 the point, for no sign
FIGURES = ".123456"


def show_row(signs):
    return "".join([FIGURES[sign] for sign in signs])


def show_filling(floor, filling):
    wide = floor[1]
    return "/".join([show_row(filling[row * wide:row * wide + wide]) for row in range(floor[0])])


def read_figure(floor, figure):
    sign = FIGURES.find(figure)
    if sign < 0 or sign > floor[2]:
        raise NoFilling("a row has figures of the floor's signs and points alone")
    return sign


def read_row(floor, row):
    if len(row) != floor[1]:
        raise NoFilling("a row has one sign for each cell")
    return [read_figure(floor, figure) for figure in row]


def read_filling(floor, text):
    if not isinstance(text, str):
        raise NoFilling("a filling is read from a text")
    rows = text.split("/")
    if len(rows) != floor[0]:
        raise NoFilling("a filling has one row for each row of the floor")
    filling = []
    for row in rows:
        filling.extend(read_row(floor, row))
    return filling
