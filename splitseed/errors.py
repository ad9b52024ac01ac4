"""The refusals of this package, each a class of its own straight under SeedError."""


class SeedError(ValueError):
    """Any refusal; made of one text."""

    def __init__(self, text):
        ValueError.__init__(self, text)


class NoNumber(SeedError):
    def __init__(self, found):
        SeedError.__init__(self, "This is no whole number that can stand here.")
        self.found = found


class NoWidth(SeedError):
    def __init__(self, found):
        SeedError.__init__(self, "This is no width that can stand here.")
        self.found = found


class NoStep(SeedError):
    def __init__(self, found):
        SeedError.__init__(self, "This is no step that can stand here.")
        self.found = found


class NoMachine(SeedError):
    def __init__(self, found):
        SeedError.__init__(self, "No machine is made of this.")
        self.found = found


class NoSeed(SeedError):
    def __init__(self, found):
        SeedError.__init__(self, "This is no seed of the machine.")
        self.found = found


class NoPath(SeedError):
    def __init__(self, found):
        SeedError.__init__(self, "This is no path of the machine.")
        self.found = found


class NoPlace(SeedError):
    def __init__(self, found):
        SeedError.__init__(self, "This is no place of the machine.")
        self.found = found


class NoState(SeedError):
    def __init__(self, found):
        SeedError.__init__(self, "This is no state of the machine's width.")
        self.found = found


class NoText(SeedError):
    def __init__(self, at):
        SeedError.__init__(self, "The text is not written so that it can be read.")
        self.at = at


class NoHand(SeedError):
    def __init__(self, found):
        SeedError.__init__(self, "This is no hand that can stand here.")
        self.found = found


class NoJoin(SeedError):
    def __init__(self, at):
        SeedError.__init__(self, "These are not just the parts of one splitting.")
        self.at = at


class NoName(SeedError):
    def __init__(self, found):
        SeedError.__init__(self, "This is no name.")
        self.found = found


class NoOrder(SeedError):
    def __init__(self, found):
        SeedError.__init__(self, "This is no order that can stand here.")
        self.found = found


class NoSet(SeedError):
    def __init__(self, found):
        SeedError.__init__(self, "This is no set that can stand here.")
        self.found = found


class NoShares(SeedError):
    def __init__(self, found):
        SeedError.__init__(self, "These are no shares.")
        self.found = found


class NoShape(SeedError):
    def __init__(self, found):
        SeedError.__init__(self, "This is no shape that can stand here.")
        self.found = found


class NoRow(SeedError):
    def __init__(self, found):
        SeedError.__init__(self, "This is no row that can stand here.")
        self.found = found


class NoPaper(SeedError):
    def __init__(self, found):
        SeedError.__init__(self, "This is no paper.")
        self.found = found


class NoPlan(SeedError):
    def __init__(self, at):
        SeedError.__init__(self, "No plan is made of this.")
        self.at = at


class NoLine(SeedError):
    def __init__(self, line):
        SeedError.__init__(self, "This is no line that a desk answers.")
        self.line = line


class NoHolder(SeedError):
    def __init__(self, found):
        SeedError.__init__(self, "This is no holder.")
        self.found = found


class TooWide(SeedError):
    def __init__(self, total):
        SeedError.__init__(self, "There are too many numbers.")
        self.total = total


class TooDeep(SeedError):
    def __init__(self, path):
        SeedError.__init__(self, "The path has as many numbers as the machine is deep.")
        self.path = path


class TooMany(SeedError):
    def __init__(self, path, many):
        SeedError.__init__(self, "The hand has not so many parts left.")
        self.path = path
        self.many = many


class Spent(SeedError):
    def __init__(self, path, place):
        SeedError.__init__(self, "The hand has not so many draws left.")
        self.path = path
        self.place = place


class Twice(SeedError):
    def __init__(self, name):
        SeedError.__init__(self, "This name is there already.")
        self.name = name


class Unknown(SeedError):
    def __init__(self, name):
        SeedError.__init__(self, "No hand has this name.")
        self.name = name


class NoDepth(SeedError):
    def __init__(self, name, at):
        SeedError.__init__(self, "The machine is not deep enough for this row.")
        self.name = name
        self.at = at


class NoParts(SeedError):
    def __init__(self, name, at):
        SeedError.__init__(self, "The machine has not parts enough for this row.")
        self.name = name
        self.at = at


class Beyond(SeedError):
    def __init__(self, name, place):
        SeedError.__init__(self, "The machine has not places enough for this row.")
        self.name = name
        self.place = place
