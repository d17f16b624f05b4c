"""Every refusal that the program knows."""


class YardError(ValueError):
    """Any refusal."""


class BadName(YardError):
    """A text that is no name."""


class Taken(YardError):
    """A name that another thing of the yard has already."""


class BadCourse(YardError):
    """A number that is no course."""


class BadPlace(YardError):
    """A number that is no place, or a place that is not where it must be."""


class BadWeight(YardError):
    """A number that is no weight."""


class Full(YardError):
    """There are as many of that kind as there may be."""


class Crowded(YardError):
    """Two things of one course would share more than one place."""


class NoThing(YardError):
    """There is no such board or trestle."""


class InUse(YardError):
    """A sack stands on the thing, or a cord is tied to it."""


class NoSack(YardError):
    """There is no such sack."""


class NoCord(YardError):
    """There is no such cord."""


class BadCord(YardError):
    """A cord whose upper board is not in a higher course than its lower one."""


class BadDeed(YardError):
    """A row that is no deed."""


class BadAsk(YardError):
    """A row that asks for none of the amounts that can be asked for."""


class BadWay(YardError):
    """A way that is neither the most nor the least."""


class BadDay(YardError):
    """A number that is no day."""


class NoEntry(YardError):
    """No row of the diary has that number now."""


class NothingThere(YardError):
    """There is nothing to take back, or nothing to do again."""


class NoText(YardError):
    """A text that is not written as it must be; `at` is its first wrong row, from 1 on."""

    def __init__(self, at):
        super().__init__(f"row {at} is wrong")
        self.at = at
