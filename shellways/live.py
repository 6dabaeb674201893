"""Live shells: programs that are carried out step by step."""

from shellways.errors import Ended, InvalidNumber, Mismatch, TooLarge
from shellways.kinds import is_integer_within, is_status
from shellways.pairs import MOST_PAIRS, START, Pairs
from shellways.plans import plan_of
from shellways.shells import outcome_of
from shellways.situations import Situations
from shellways.walks import started_walk, walk_behind

MOST_DIGITS = 1000

# A number with more bits has more than a thousand digits.
MOST_BITS = 3400


class Live:
    """A program with the statuses that were told so far."""

    def __init__(self, program):
        self.program = program
        self.row = []
        # The walks behind no status, the first one, and so on; none of them is changed any more.
        self.walks = [started_walk(plan_of(program))]

    def command(self):
        """Returns the command that is asked for, or None."""
        asking = self.walks[-1].asking
        return None if asking is None else asking.tree[1]

    def command_path(self):
        """Returns the path of the run that asks, or None."""
        asking = self.walks[-1].asking
        return None if asking is None else asking.path

    def outcome(self):
        """Returns the outcome for the row told so far."""
        return outcome_of(self.walks[-1], len(self.row))

    def tell(self, status):
        """Tells the status of the command that is asked for."""
        if not is_status(status):
            raise InvalidNumber("status")
        walk = self.walks[-1]
        if walk.asking is None:
            raise Ended(walk.status)
        self.walks.append(walk_behind(walk, status))
        self.row.append(status)

    def told(self):
        """Returns the row told so far."""
        return list(self.row)

    def __len__(self):
        return len(self.row)

    def back(self, count):
        """Takes the last statuses back."""
        if not is_integer_within(count, 0, len(self.row)):
            raise InvalidNumber("count")
        many = len(self.row) - count
        del self.row[many:]
        del self.walks[many + 1:]

    def copied(self):
        """Returns an equal Live that changes independently."""
        live = Live(self.program)
        live.row = list(self.row)
        live.walks = list(self.walks)
        return live

    def __eq__(self, other):
        return isinstance(other, Live) and self.program == other.program and self.row == other.row

    def __str__(self):
        return " ".join(words_of(self))


def words_of(live):
    """Returns the words of the text of a Live."""
    words = []
    for walk, status in zip(live.walks, live.row):
        if has_too_many_digits(status):
            raise TooLarge(MOST_DIGITS)
        words.append(walk.asking.tree[1] + ":" + str(status))
    outcome = live.outcome()
    words.append(outcome[0])
    if outcome[0] != "silent":
        words.append(str(outcome[1]))
    return words


def has_too_many_digits(status):
    return status.bit_length() > MOST_BITS or len(str(status)) > MOST_DIGITS


def same_future(live, other):
    """Returns whether two Lives behave alike from now on."""
    if not isinstance(live, Live):
        raise Mismatch("live")
    if not isinstance(other, Live):
        raise Mismatch("other")
    one, two = [Situations(lively.walks[-1].copied(), False) for lively in (live, other)]
    return Pairs(one, two, (), MOST_PAIRS).parting_row(START) is None
