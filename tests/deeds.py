"""Deeds by chance, and all that a desk shows of itself."""

from askedtrue.nettext import net_text
from askedtrue.ordertext import order_text
from askedtrue.turns import turns
from tests.chances import chance_packet
from tests.helpers import chance_order, chance_tree

ATTRIBUTES = ("first", "plan", "trusted", "world", "script", "deadlines", "beats", "record", "deeds")
WORDS = ("order", "net", "lots", "trust", "world", "answer", "bad", "deadline", "checks", "foe", "go on", "again", "back")


def shown(desk):
    """All attributes of a desk."""
    return {name: getattr(desk, name) for name in ATTRIBUTES}


def chance_pairs(chance, lots):
    return [(chance.choice((0, 0, 1)), chance.choice((0, 0, 1))) for _ in range(lots)]


def chance_bad_packet(chance, desk):
    """A bad packet of any turn up to some beats behind those that were made."""
    net = desk.plan.net
    places = [(way, beat) for way in range(len(net.ways)) for beat in turns(net, way, desk.beats + 8)]
    if not places:
        return ("lost", 0, 1)
    way, beat = chance.choice(places)
    if chance.random() < 0.5:
        return ("lost", way, beat)
    return ("corrupted", way, beat, chance_packet(chance, desk.plan, way))


def chance_deed(chance, desk, words=WORDS):
    """A deed with one of these words, mostly one that can be made."""
    word = chance.choice(words)
    names = desk.plan.order.names or ("a",)
    return {
        "order": lambda: (word, order_text(chance_order(chance, chance.randint(0, 4), desk.plan.net.ends))),
        "net": lambda: (word, net_text(chance_tree(chance, desk.plan.net.ends))),
        "lots": lambda: (word, chance_pairs(chance, 4)),
        "trust": lambda: (word, chance_pairs(chance, chance.choice((4, 4, 3)))),
        "world": lambda: (word, chance.randint(-2, 3), chance.randint(-1, 2)),
        "answer": lambda: (word, chance.choice(names), [chance.randint(-1, 2) for _ in range(chance.randint(0, 2))],
                           chance.randint(-5, 5)),
        "bad": lambda: (word, chance_bad_packet(chance, desk)),
        "deadline": lambda: (word, chance.choice((*names, "zz")), chance.choice((0, 1, 3, 8, 20, 401))),
        "checks": lambda: (word, [chance.randint(0, 3) for _ in desk.plan.budgets]),
        "foe": lambda: (word, chance.choice(names)),
        "go on": lambda: (word, chance.choice((1, 2, 3, 7))),
        "again": lambda: (word,),
        "back": lambda: (word,),
    }[word]()
