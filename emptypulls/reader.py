"""Reads the texts of depots."""

from emptypulls.depots import Depot
from emptypulls.digits import is_number_word
from emptypulls.errors import BadText
from emptypulls.lines import wrong_stand_part, wrong_tour_part
from emptypulls.stands import Stand
from emptypulls.tours import Tour

# The words that the lines begin with.
HEADS = ("tour", "stand", "at", "paid")
MOST_DIGITS = 60


def read_depot(text):
    """The depot that a text tells, without laps, words and deeds."""
    if not isinstance(text, str):
        raise BadText(0, 0)
    lines = text.split("\n")
    rows = [line.split(" ") for line in lines]
    for at in range(len(rows)):
        wrong = wrong_line_word(rows, at)
        if wrong is not None:
            raise BadText(at, wrong)
    if len(rows) < len(HEADS):
        raise BadText(len(rows), 0)
    tour = Tour.read(lines[0].removeprefix("tour "))
    stand = Stand.read(lines[1].removeprefix("stand "))
    return Depot(tour, stand, int(rows[2][1]), int(rows[3][1]))


def wrong_line_word(rows, at):
    """The index of the first word of a line that cannot stand or is missing, behind lines that fit; None if all fit."""
    words = rows[at]
    if at >= len(HEADS) or words[0] != HEADS[at]:
        return 0
    if at == 0:
        return wrong_tour_part(words)
    if at == 1:
        return wrong_stand_part(words)
    if len(words) == 1 or not is_number_word(words[1], MOST_DIGITS):
        return 1
    # Behind its first word the line of the tour has two words for each trip.
    if at == 2 and int(words[1]) >= len(rows[0]) // 2:
        return 1
    return 2 if len(words) > 2 else None
