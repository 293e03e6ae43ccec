"""Tongues, as point [17] of the document tells them."""


class Tongue:
    def __init__(self, name, falls, rules, joiners, figures, calendar, dayform):
        self.name = name
        self.falls = falls
        self.rules = rules
        self.joiners = joiners
        self.figures = figures
        self.calendar = calendar
        self.dayform = dayform
