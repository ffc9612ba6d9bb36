"""Urns that ballots are put into and taken out of."""

from wishcount.errors import NoBallot
from wishcount.tables import table


class Urn:
    def __init__(self, many):
        self.many = many
        self.ballots = []

    def put(self, ballot):
        self.ballots.append(ballot)

    def take(self, ballot):
        if ballot not in self.ballots:
            raise NoBallot("there is no such ballot in the urn")
        self.ballots.remove(ballot)

    def counted(self):
        return table(self.box())

    def box(self):
        return (self.many, tuple(sorted(self.ballots)))
