"""Lines that begin with a word of their own and go on with the text of a tour or a stand."""

from emptypulls.stands import wrong_stand_word
from emptypulls.tours import wrong_tour_word


def wrong_tour_part(words):
    """The index of the first word behind the first one that cannot stand in a tour or is missing; None if all fit."""
    if len(words) == 1:
        return 1
    return further(wrong_tour_word(words[1:]))


def wrong_stand_part(words):
    """The index of the first word behind the first one that cannot stand in a stand or is missing; None if all fit."""
    if len(words) == 1:
        return 1
    return further(wrong_stand_word(words[1:]))


def further(wrong):
    """The index in the line for an index in what stands behind its first word."""
    return None if wrong is None else wrong + 1
