"""Programs ([0.4]) of several kinds."""

from askedtrue.lots import Budgets
from askedtrue.tellers import teller


def silent(plan):
    """Asks nothing and tells nothing."""
    def program(memory, word):
        return (None, () if word[0] == "tell" else None)
    return program


def fewer(plan, at):
    """The teller of the plan with one bad packet less, if there is one at this place of the budgets."""
    numbers = [number for pair in plan.budgets for number in pair]
    places = [place for place, number in enumerate(numbers) if number]
    if places:
        numbers[places[at % len(places)]] -= 1
    return teller(plan.with_budgets(Budgets(list(zip(numbers[::2], numbers[1::2])))))


def believer(plan):
    """The teller that takes the first copy for true: it counts on no corrupted packets."""
    return teller(plan.with_budgets(Budgets([(0, lost) for _, lost in plan.budgets])))


def lister(ask_at):
    """A program that asks what ask_at(end, beat) lists; what it tells is its end and the beat."""
    def program(memory, word):
        if word[0] == "begin":
            return ((word[1], ()), None)
        end, left = memory
        if word[0] == "tell":
            return (memory, (end, word[1]))
        if word[0] == "heard":
            return (memory, None)
        asks = tuple(ask_at(end, word[1])) if word[0] == "work" else left
        if not asks:
            return ((end, ()), None)
        return ((end, asks[1:]), asks[0])
    return program


def guesser(plan):
    """Asks its queries with more and more numbers, and its actions with a number at beat 4."""
    def ask_at(end, beat):
        for name in plan.order.of_end(end):
            event = plan.order.event(name)
            if event.kind == "query":
                for number in range(6 * beat, 6 * beat + 6):
                    yield (name, (number,) * len(event.needs))
            elif beat == 4:
                yield (name, (1,) * len(event.needs))
    return lister(ask_at)


def numbers_in(thing):
    """All numbers in a packet."""
    if isinstance(thing, (tuple, list)):
        return {number for part in thing for number in numbers_in(part)}
    return {thing} if isinstance(thing, int) and not isinstance(thing, bool) else set()


def follower(plan):
    """Hands on all numbers that it met, asks queries with each of them and the ones above, never an action."""
    def program(memory, word):
        if word[0] == "begin":
            return ((word[1], (0,), (), ()), None)
        end, met, asked, left = memory
        if word[0] == "tell":
            return (memory, met)
        if word[0] == "heard":
            met = tuple(sorted(set(met) | numbers_in(word[3])))[-12:]
            return ((end, met, asked, ()), None)
        if word[0] == "answer":
            met = tuple(sorted({*met, word[3]}))[-12:]
        if word[0] == "work":
            left = tuple((name, (number + more,) * len(plan.order.event(name).needs))
                         for name in plan.order.of_end(end) if plan.order.event(name).kind == "query"
                         for number in met for more in (0, 1, 2))
        left = tuple(ask for ask in left if ask not in asked)
        if not left:
            return ((end, met, asked, ()), None)
        return ((end, met, (*asked, left[0]), left[1:]), left[0])
    return program


def flipper(plan):
    """The teller of the plan, but its end 1 tells nothing that a Teller takes."""
    base = teller(plan)

    def program(memory, word):
        memory, out = base(memory, word)
        if word[0] == "tell" and memory.end == 1:
            return (memory, ("odd", word[1]))
        return (memory, out)
    return program


KINDS = (teller, lambda plan: fewer(plan, 0), lambda plan: fewer(plan, -1), believer, silent, guesser, follower, flipper)
