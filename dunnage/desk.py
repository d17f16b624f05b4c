"""A desk, which has a diary and answers lines."""

from dunnage.apart import does_stand, drawable
from dunnage.diary import Diary
from dunnage.errors import BadDay, BadName, BadPlace, NoCord, NoEntry, NoSack, NoText, NothingThere, NoThing
from dunnage.page import written
from dunnage.seek import edge
from dunnage.words import asked_in, deed_in, number_in

# How many numbers stand behind the first word of a line, and what stands behind them.
FORMS = {
    "enter": (1, "deed"),
    "strike": (1, ""),
    "correct": (2, "deed"),
    "back": (0, ""),
    "again": (0, ""),
    "word": (1, ""),
    "stands": (1, ""),
    "least": (1, "asked"),
    "most": (1, "asked"),
    "draw": (1, ""),
    "page": (0, ""),
}


def things_in(words):
    """What stands behind the first word of a line."""
    if words[0] not in FORMS:
        raise NoText(1)
    count, behind = FORMS[words[0]]
    numbers = words[1:1 + count]
    rest = words[1 + count:]
    if len(numbers) < count:
        raise NoText(1)
    things = [number_in(word) for word in numbers]
    if behind == "deed":
        things.append(deed_in(rest))
    elif behind == "asked":
        things.append(asked_in(rest))
    elif rest:
        raise NoText(1)
    return things


def say_enter(diary, day, deed):
    return str(diary.enter(day, deed))


def say_strike(diary, number):
    diary.strike(number)
    return "done"


def say_correct(diary, number, day, deed):
    diary.correct(number, day, deed)
    return "done"


def say_back(diary):
    diary.back()
    return "done"


def say_again(diary):
    diary.again()
    return "done"


def say_word(diary, number):
    return diary.word(number)


def say_stands(diary, day):
    return "yes" if does_stand(diary.yard(day)) else "no"


def told_edge(answer):
    if answer[0] == "edge":
        return f"{answer[1][0]}/{answer[1][1]}"
    return answer[0]


def say_least(diary, day, asked):
    return told_edge(edge(diary.yard(day), asked, "least"))


def say_most(diary, day, asked):
    return told_edge(edge(diary.yard(day), asked, "most"))


def say_draw(diary, day):
    names = drawable(diary.yard(day))
    return " ".join(names) if names else "none"


def say_page(diary):
    return written(diary)


ANSWERS = {
    "enter": say_enter,
    "strike": say_strike,
    "correct": say_correct,
    "back": say_back,
    "again": say_again,
    "word": say_word,
    "stands": say_stands,
    "least": say_least,
    "most": say_most,
    "draw": say_draw,
    "page": say_page,
}


def answered(diary, line):
    words = line.split(" ")
    things = things_in(words)
    answer = ANSWERS[words[0]]
    return answer(diary, *things)


class Desk:
    """A desk, whose diary is empty at first."""

    def __init__(self):
        self.book = Diary()

    def say(self, line):
        """The answer to the line; a refusal is answered by its class's name."""
        try:
            return answered(self.book, line)
        except NoText:
            return "no NoText"
        except NoEntry:
            return "no NoEntry"
        except BadDay:
            return "no BadDay"
        except BadName:
            return "no BadName"
        except NothingThere:
            return "no NothingThere"
        except NoThing:
            return "no NoThing"
        except NoSack:
            return "no NoSack"
        except NoCord:
            return "no NoCord"
        except BadPlace:
            return "no BadPlace"

    def diary(self):
        """A twin of its diary."""
        return self.book.twin()
