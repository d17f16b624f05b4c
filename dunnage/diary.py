"""A diary of deeds by days, whose deeds can be taken back and done again."""

from dunnage.deeds import check_form, DEED_THINGS, is_name, is_number
from dunnage.errors import BadDay, BadDeed, BadName, NoEntry, NothingThere, YardError
from dunnage.yard import BEAM, Yard

LAST_DAY = 9999
# The greatest number of 10 figures.
GREATEST_NUMBER = 9999999999


def check_day(day):
    if not is_number(day) or not 1 <= day <= LAST_DAY:
        raise BadDay("a day is a number from 1 to 9999")


def check_numbers(deed):
    for thing, kind in zip(deed[1:], DEED_THINGS[deed[0]]):
        if kind == "number" and not (is_number(thing) and -GREATEST_NUMBER <= thing <= GREATEST_NUMBER):
            raise BadDeed("a number in a diary has at most 10 figures")


def check_names(deed):
    for thing, kind in zip(deed[1:], DEED_THINGS[deed[0]]):
        if kind == "upper" and thing == BEAM:
            continue
        if kind != "number" and not is_name(thing):
            raise BadName("a name has 1 to 8 letters from a to z")


def check_entry(day, deed):
    """Refuse what a diary does not keep; what a yard would refuse it keeps."""
    check_day(day)
    check_form(deed)
    check_numbers(deed)
    check_names(deed)


def diary_of(entries, following):
    """A diary with these entries (day, deed) by their numbers, and nothing to take back or do again."""
    diary = Diary()
    diary.entries = dict(entries)
    diary.following = following
    return diary


class Diary:
    """A diary, empty at first.

    Its entries (day, deed) are kept by their numbers. What it did is kept as changes (number, old entry, new entry),
    in which None stands for no entry.
    """

    def __init__(self):
        self.entries = {}
        self.following = 1
        self.changes = []
        self.changes_taken_back = []

    def enter(self, day, deed):
        """Enter a deed, and tell the number that it gets."""
        check_entry(day, deed)
        number = self.following
        self.change(number, None, (day, tuple(deed)))
        return number

    def strike(self, number):
        self.change(number, self.entry(number), None)

    def correct(self, number, day, deed):
        """Put another day and deed under the number."""
        old = self.entry(number)
        check_entry(day, deed)
        self.change(number, old, (day, tuple(deed)))

    def back(self):
        """Take the last change back."""
        if not self.changes:
            raise NothingThere("there is nothing to take back")
        number, old, new = self.changes.pop()
        self.changes_taken_back.append((number, old, new))
        self.put(number, old)
        if old is None:
            # The row was entered by this change, so its number is the next one again.
            self.following = number

    def again(self):
        """Do again what was taken back last."""
        if not self.changes_taken_back:
            raise NothingThere("there is nothing to do again")
        number, old, new = self.changes_taken_back.pop()
        self.make(number, old, new)

    def rows(self):
        """The list of (number, day, deed), by numbers."""
        return [(number, self.entries[number][0], self.entries[number][1]) for number in sorted(self.entries)]

    def coming(self):
        """The next number."""
        return self.following

    def yard(self, day):
        """The yard of the day."""
        check_day(day)
        return self.followed(day)[0]

    def word(self, number):
        """Whether the row's deed is done or void in the yard of its day."""
        day = self.entry(number)[0]
        return "void" if number in self.followed(day)[1] else "done"

    def twin(self):
        """A diary with the same rows and the same to take back and do again, that goes its own way from now on."""
        other = diary_of(self.entries, self.following)
        other.changes = list(self.changes)
        other.changes_taken_back = list(self.changes_taken_back)
        return other

    def entry(self, number):
        if not is_number(number) or number not in self.entries:
            raise NoEntry("no row has that number now")
        return self.entries[number]

    def put(self, number, entry):
        if entry is None:
            del self.entries[number]
        else:
            self.entries[number] = entry

    def make(self, number, old, new):
        """Make the change, and keep it as one that can be taken back."""
        self.changes.append((number, old, new))
        self.put(number, new)
        if old is None:
            self.following = number + 1

    def change(self, number, old, new):
        """Make a change that is not one done again: nothing can be done again behind it."""
        self.changes_taken_back = []
        self.make(number, old, new)

    def followed(self, day):
        """The yard in which all deeds up to the day were done, and the list of the numbers of those that are void."""
        yard = Yard()
        void = []
        for entered, number, deed in sorted([(row[1], row[0], row[2]) for row in self.rows() if row[1] <= day]):
            try:
                yard.do(deed)
            except YardError:
                void.append(number)
        return (yard, void)
