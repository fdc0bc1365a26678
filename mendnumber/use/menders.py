"""Menders, which change words of a source into words of a target."""

from mendnumber.base.changes import changes_between
from mendnumber.base.integers import LARGEST, check_number
from mendnumber.base.words import check_word
from mendnumber.decide.greatest import check_task, peak_of
from mendnumber.decide.unfolded import Unfolded
from mendnumber.errors import InvalidOperation, NothingToUndo
from mendnumber.game.hurried import check_hurry, sums_of
from mendnumber.use.plans import Plan
from mendnumber.use.replacements import Replacements


class Mender:
    """A hurried mender: it gets a word piece by piece and pays at most the hurried number."""

    def __init__(self, source, target, prices, *, ahead=0):
        # The plan of another mender spares finding it again.
        if isinstance(source, Plan):
            self._plan = source
        else:
            self._plan = _plan_for(source, target, prices, ahead)
        self._came = ""
        self._is_over = False
        self._deeds = []
        self._most = self._plan.number

    @property
    def came(self):
        """All signs that came."""
        return self._came

    @property
    def waiting(self):
        """The signs that came and are not treated."""
        return self._came[len(self._deeds):]

    @property
    def result(self):
        """All that was returned, joined."""
        return "".join([deed[3] for deed in self._deeds])

    @property
    def changes(self):
        """A row of changes that makes the result of the treated signs."""
        return tuple([change for deed in self._deeds for change in deed[4]])

    @property
    def paid(self):
        """What was paid."""
        return self._deeds[-1][1] if self._deeds else 0

    @property
    def has_ended(self):
        """Whether the word has ended."""
        return self._is_over

    @property
    def promised(self):
        """The hurried number."""
        return self._plan.number

    @property
    def most(self):
        """A number that what is paid will not exceed."""
        return self._most

    def feed(self, word):
        """These signs come; the word by which the result gets longer."""
        check_word(word)
        came = self._came + word
        states = self._plan.states_along(came)
        if self._is_over or len(states) <= len(came):
            raise InvalidOperation("the word has ended, or no word of the source begins so")
        done = len(self._deeds)
        self._came = came
        self._treat(len(came) - self._plan.ahead)
        self._note_most()
        return self._written_since(done)

    def end(self):
        """The word ends; the rest of the result."""
        if self._is_over or self._came not in self._plan.source:
            raise InvalidOperation("the word has ended, or is no word of the source")
        done = len(self._deeds)
        self._treat(len(self._came))
        self._deeds.append(self._plan.last_deed(self._deeds))
        self._is_over = True
        self._note_most()
        return self._written_since(done)

    def undo(self, *, many=1):
        """The last signs did not come, and the word did not end; the part of the result that is taken back."""
        check_number(many, 0, LARGEST)
        ends = 1 if self._is_over else 0
        if many > len(self._came) + ends:
            raise NothingToUndo(many)
        if many == 0:
            return ""
        self._came = self._came[:len(self._came) + ends - many]
        self._is_over = False
        treated = max(0, len(self._came) - self._plan.ahead)
        taken = self._written_since(treated)
        self._deeds = self._deeds[:treated]
        self._note_most()
        return taken

    def foretell(self, word):
        """What would be returned if these signs came and then the word ended."""
        other = self.twin()
        return other.feed(word) + other.end()

    def twin(self):
        """An equal mender that goes on by itself."""
        other = Mender(self._plan, None, None)
        other._came = self._came
        other._is_over = self._is_over
        other._deeds = list(self._deeds)
        other._most = self._most
        return other

    def __call__(self, word):
        return Mender(self._plan, None, None).foretell(word)

    def __len__(self):
        return len(self._came)

    def __eq__(self, other):
        return (
            isinstance(other, Mender)
            and self._plan.is_like(other._plan)
            and self._came == other._came
            and self._is_over == other._is_over
        )

    def __str__(self):
        return f"mender: {len(self._came)} signs, paid {self.paid} of {self.promised}"

    def _treat(self, many):
        """Treat the signs that are not treated yet, up to so many of those that came."""
        states = self._plan.states_along(self._came)
        treated = len(self._deeds)
        for at in range(treated, many):
            window = self._came[at:at + self._plan.ahead + 1]
            self._deeds.append(self._plan.next_deed((states[at], window), self._deeds))

    def _note_most(self):
        """Note what will be paid at most."""
        if self._is_over:
            self._most = self._deeds[-1][1]
        else:
            state = self._plan.states_along(self._came)[len(self._deeds)]
            self._most = self._plan.most_to_pay(state, self._came[len(self._deeds):], self._deeds)

    def _written_since(self, many):
        """The part of the result that was written behind so many deeds."""
        return "".join([deed[3] for deed in self._deeds[many:]])


class Rereader:
    """A mender of least price: it reads a word from left to right and then back; it never changes."""

    def __init__(self, source, target, prices):
        check_task(source, target, prices)
        peak = peak_of(source, target, prices)
        self._source = source
        self._target = target
        self._tariff = prices
        self._replacements = Replacements(target, prices)
        self._unfolded = Unfolded(source, peak.reader, peak.height + 1)
        self._there = _ways_there(self._unfolded)
        self._ends = _last_states(self._unfolded, peak.reader)
        self._back = _ways_back(self._unfolded, peak, self._replacements)
        self._begins = {to: self._replacements.put_between(0, to) for to in range(len(target))}

    @property
    def there(self):
        """A dict from pairs of a number and a sign to the number behind the sign."""
        return {key: self._there[key] for key in self._there}

    @property
    def ends(self):
        """A dict from the numbers where words end to last states of the target."""
        return dict(self._ends)

    @property
    def back(self):
        """A dict from triples of a number, a sign and the state behind it to the state ahead of it, and a word."""
        return {key: self._back[key] for key in self._back}

    @property
    def begins(self):
        """A dict from states of the target to the words that are put in ahead."""
        return dict(self._begins)

    def mending(self, word):
        """A row of changes of least price that makes the word of the target of a word."""
        states = self._states_back(word)
        ends = [("", sign) for sign in self._begins[states[0]]]
        for sign, near, to in zip(word, states, states[1:]):
            new, put = self._replacements.with_put_behind(sign, near, to)
            ends.append((sign, new))
            ends.extend([("", other) for other in put])
        return changes_between(ends, self._tariff)

    def __call__(self, word):
        states = self._states_back(word)
        numbers = self._numbers_along(word)
        parts = [self._back[key][1] for key in zip(numbers, word, states[1:])]
        return self._begins[states[0]] + "".join(parts)

    def __len__(self):
        return len(self._unfolded.places)

    def __eq__(self, other):
        return (
            isinstance(other, Rereader)
            and self._source == other._source
            and self._target == other._target
            and self._tariff == other._tariff
        )

    def __str__(self):
        return f"rereader of {len(self._unfolded.places)} numbers"

    def _numbers_along(self, word):
        """The numbers behind the first 0, 1, .. signs of a word."""
        numbers = [0]
        for sign in word:
            numbers.append(self._there[numbers[-1], sign])
        return numbers

    def _states_back(self, word):
        """The states of the target ahead of the first sign of a word, and behind each sign."""
        check_word(word)
        if word not in self._source:
            raise InvalidOperation("this is no word of the source")
        numbers = self._numbers_along(word)
        states = [self._ends[numbers[-1]]]
        for number, sign in reversed(list(zip(numbers, word))):
            states.append(self._back[number, sign, states[-1]][0])
        return states[::-1]


def _plan_for(source, target, prices, ahead):
    """What hurried menders do, if there is a hurried number."""
    check_hurry(source, target, prices, ahead)
    sums = sums_of(source, target, prices, ahead)
    if sums is None:
        raise InvalidOperation("there is no hurried number")
    return Plan(source, target, prices, sums)


def _ways_there(unfolded):
    """A dict from pairs of a number and a sign to the number behind the sign."""
    ways = {}
    for number, moves in enumerate(unfolded.moves):
        for sign in moves:
            ways[number, sign] = moves[sign]
    return ways


def _last_states(unfolded, reader):
    """A dict from the numbers where words end to last states of the target where they cost least."""
    ends = {}
    for number, (_, row) in enumerate(unfolded.places):
        price = unfolded.end_costs[number]
        if price is not None:
            ends[number] = min([to for to in reader.last_states if row[to] == price])
    return ends


def _ways_back(unfolded, peak, replacements):
    """A dict from triples of a number, a sign and the state behind it to the state ahead of it, and a word."""
    ways = {}
    steps = {}
    parts = _words_for_signs(peak.reader, replacements)
    for number, (_, row) in enumerate(unfolded.places):
        moves = unfolded.moves[number]
        for sign in moves:
            if (row, sign) not in steps:
                steps[row, sign] = _steps_back(row, sign, unfolded.places[moves[sign]][1], peak)
            for to, near in steps[row, sign]:
                ways[number, sign, to] = (near, parts[sign, near, to])
    return ways


def _words_for_signs(reader, replacements):
    """A dict from triples of a sign and the states ahead and behind to the word that takes its place."""
    parts = {}
    for sign in reader.ways:
        for to, ways in enumerate(reader.ways[sign]):
            for near, _ in ways:
                parts[sign, near, to] = "".join(replacements.with_put_behind(sign, near, to))
    return parts


def _steps_back(row, sign, behind, peak):
    """The pairs of a state behind a row and a sign, and a state ahead of it on a way of least cost."""
    steps = []
    for to in range(len(behind)):
        # Greater numbers are cut, and no way of least cost goes through them.
        if behind[to] <= peak.height:
            near = min([at for at, price in peak.reader.ways[sign][to] if row[at] + price == behind[to]])
            steps.append((to, near))
    return steps
