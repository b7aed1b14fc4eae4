"""Depots as texts."""

from emptypulls.depots import Depot
from emptypulls.digits import number_text
from emptypulls.errors import BadStand


def depot_text(depot):
    """The four lines that tell a depot, without its laps, words and deeds."""
    if not isinstance(depot, Depot):
        raise BadStand("depot")
    lines = [f"tour {depot.tour_now}", f"stand {depot.stand_now}", f"at {depot.next_index}",
             f"paid {number_text(depot.paid)}"]
    return "\n".join(lines)
