"""Pages: diaries written as texts, and read back."""

from dunnage.diary import check_entry, diary_of
from dunnage.errors import NoText, YardError
from dunnage.words import deed_in, number_in, words_of


def written_row(number, day, deed):
    return " ".join([str(number), str(day)] + words_of(deed)) + "\n"


def written(diary):
    """The page of the diary."""
    rows = [written_row(number, day, deed) for number, day, deed in diary.rows()]
    return f"next {diary.coming()}\n" + "".join(rows)


def following_in(line):
    """The next number, told by the first row."""
    words = line.split(" ")
    if len(words) != 2 or words[0] != "next":
        raise NoText(1)
    following = number_in(words[1])
    if following < 1:
        raise NoText(1)
    return following


def entry_in(line):
    """A row's (number, day, deed)."""
    words = line.split(" ")
    if len(words) < 2:
        raise NoText(1)
    number, day, deed = number_in(words[0]), number_in(words[1]), deed_in(words[2:])
    check_entry(day, deed)
    return (number, day, deed)


def read_row(line, entries, following):
    """Put the row's entry under its number."""
    number, day, deed = entry_in(line)
    if number >= following or number <= max([0] + list(entries)):
        raise NoText(1)
    entries[number] = (day, deed)


def read(text):
    """The diary of a page."""
    lines = text.split("\n")
    # What stands behind the last line feed lacks its own, so it must be nothing.
    rest = lines.pop()
    following = 0
    entries = {}
    for at, line in enumerate(lines, start=1):
        try:
            if at == 1:
                following = following_in(line)
            else:
                read_row(line, entries, following)
        except YardError:
            raise NoText(at) from None
    if len(lines) == 0 or rest != "":
        raise NoText(len(lines) + 1)
    return diary_of(entries, following)
