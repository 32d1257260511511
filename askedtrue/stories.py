"""Stories: the plan that a desk began with, and the deeds that stand."""

from askedtrue.orders import is_sequence

# How many things a deed tells behind its word.
THINGS = {"order": 1, "net": 1, "lots": 1, "trust": 1, "world": 2, "answer": 3, "bad": 1, "deadline": 2, "checks": 1,
          "foe": 1, "go on": 1, "again": 0, "back": 0}


class Story:
    """What a desk can be made of anew: its first plan, and its deeds one by one."""

    def __init__(self, plan, deeds):
        self.plan = plan
        self.deeds = deeds

    def __eq__(self, other):
        return isinstance(other, Story) and self.plan == other.plan and self.deeds == other.deeds


def is_deed(thing):
    """Whether the thing is a sequence of the word of a deed and exactly as many things as this tells."""
    if not is_sequence(thing) or len(thing) == 0 or not isinstance(thing[0], str):
        return False
    return thing[0] in THINGS and len(thing) == 1 + THINGS[thing[0]]
