"""Deeds one after the other: as a trial, or as a whole day."""

from coveredday.house import House


def tried(house, deeds):
    """By how much what the house has paid would grow by the deeds, and the happenings that would come."""
    with house.trial() as held:
        paid = held.paid_total
        count = len(held.daybook())
        for deed in deeds:
            held.do(deed)
        found = (held.paid_total - paid, held.daybook().since(count))
    return found


def play(plan, day, *, parcels=None):
    """The house behind all deeds of the day."""
    house = House(plan, day.prices, day.members, parcels=parcels)
    for deed in day.deeds:
        house.do(deed)
    return house
