"""The refusals of the program: each of them stands under DuelError alone."""


class DuelError(ValueError):
    pass


class NoNumber(DuelError):
    pass


class NoText(DuelError):
    pass


class NoName(DuelError):
    pass


class NoFloor(DuelError):
    pass


class NoPlace(DuelError):
    def __init__(self, place):
        DuelError.__init__(self, f"row {place} tells no place")
        self.place = place


# The lists are copied, so that no later change of what was handed in reaches
# the one who takes the refusal.
class NoAnswer(DuelError):
    def __init__(self, weights):
        DuelError.__init__(self, "the rows have no answer")
        self.weights = list(weights)


class ManyAnswers(DuelError):
    def __init__(self, answer, still):
        DuelError.__init__(self, "the rows have more answers than one")
        self.answer = list(answer)
        self.still = list(still)


class NoPlan(DuelError):
    def __init__(self, place):
        DuelError.__init__(self, f"the plan has no door at place {place}")
        self.place = place


class NoGoal(DuelError):
    def __init__(self, place):
        # A goal may be any whole number, and Python refuses to write very
        # long ones: so the words leave it out.
        DuelError.__init__(self, "the goals are no ends in rising order")
        self.place = place


class NoRow(DuelError):
    pass
