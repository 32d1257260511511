"""All errors of the package: each stands straight under AskedError."""


class AskedError(ValueError):
    """What all errors of the package stand under; two are equal by class and attributes."""

    def __init__(self, *told):
        self.told = told

    def __eq__(self, other):
        if not isinstance(other, AskedError):
            return False
        return type(self) is type(other) and self.told == other.told


class BadOrder(AskedError):
    """An order of events, or the name of an event in it, is refused."""

    def __init__(self, what, name):
        self.told = (what, name)
        self.what = what
        self.name = name


class BadText(AskedError):
    """A text is wrong in this row, counted from 0."""

    def __init__(self, row):
        self.told = (row,)
        self.row = row


class BadWorld(AskedError):
    """A world is refused."""

    def __init__(self, what):
        self.told = (what,)
        self.what = what


class BadNet(AskedError):
    """A net, or an end, a way, a route or a beat in it, is refused."""

    def __init__(self, what, at):
        self.told = (what, at)
        self.what = what
        self.at = at


class BadLots(AskedError):
    """Budgets, or a lot of them, are refused."""

    def __init__(self, what, at):
        self.told = (what, at)
        self.what = what
        self.at = at


class BadScript(AskedError):
    """A script of bad packets is refused."""

    def __init__(self, what, at):
        self.told = (what, at)
        self.what = what
        self.at = at


class BadPlan(AskedError):
    """An order, a net and budgets do not go together."""

    def __init__(self, what):
        self.told = (what,)
        self.what = what


class BadPath(AskedError):
    """A sequence of names is no path; None stands for the whole."""

    def __init__(self, at):
        self.told = (at,)
        self.at = at


class BadDeadline(AskedError):
    """Deadlines are refused; None stands for the whole."""

    def __init__(self, at):
        self.told = (at,)
        self.at = at


class BadMargin(AskedError):
    """What a margin is asked for is refused."""

    def __init__(self, what):
        self.told = (what,)
        self.what = what


class BadProgram(AskedError):
    """A program told what no program may tell."""

    def __init__(self, end, beat):
        self.told = (end, beat)
        self.end = end
        self.beat = beat


class BadFoe(AskedError):
    """There is no foe of this event."""

    def __init__(self, what):
        self.told = (what,)
        self.what = what


class BadRounds(AskedError):
    """An endless order, or a thing that it is asked for, is refused."""

    def __init__(self, what, name):
        self.told = (what, name)
        self.what = what
        self.name = name


class BadChecks(AskedError):
    """Checks, or what they are chosen by, are refused."""

    def __init__(self, what):
        self.told = (what,)
        self.what = what


class BadWeather(AskedError):
    """A weather, or a thing that it is asked for, is refused."""

    def __init__(self, what):
        self.told = (what,)
        self.what = what


class BadStream(AskedError):
    """A stream, or a thing that it is asked for, is refused."""

    def __init__(self, what):
        self.told = (what,)
        self.what = what


class BadRing(AskedError):
    """A net with rings, or a thing that it is asked for, is refused."""

    def __init__(self, what):
        self.told = (what,)
        self.what = what


class BadDeed(AskedError):
    """A desk does not take this deed."""

    def __init__(self, what):
        self.told = (what,)
        self.what = what


class NoDeed(AskedError):
    """No deed of a desk stands that could be taken back."""

    def __init__(self):
        self.told = ()
