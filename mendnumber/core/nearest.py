"""The words of a target that are nearest to a word."""


class Nearest:
    """A net of the ways of least cost, in which words are told one behind the other."""

    def __init__(self, places):
        steps = _steps_from(places)
        # Each step comes to a place of greater cost, or keeps a sign, so what is ahead of a place is treated first.
        order = sorted([(-places.cost_of(place), -place[0], place) for place in steps])
        self._moves = {}
        self._lengths = {}
        self._reached = {}
        ends = places.final_places()
        for _, _, place in order:
            self._enter(place, steps[place], place in ends)

    def lengths(self):
        """The ascending list of the lengths of the words."""
        many = self._lengths[0, 0]
        return [length for length in range(many.bit_length()) if many >> length & 1]

    def first_of_length(self, length):
        """The first word of a length."""
        return self._completed("", self._reached[0, 0], length)

    def next_of_length(self, word):
        """The next word of the same length, or None."""
        groups = [self._reached[0, 0]]
        for sign in word:
            groups.append(self._behind(groups[-1], sign))
        for at in range(len(word) - 1, -1, -1):
            greater = [sign for sign in self._signs(groups[at], len(word) - at - 1) if sign > word[at]]
            if greater:
                return self._completed(word[:at] + greater[0], self._behind(groups[at], greater[0]), len(word))
        return None

    def _enter(self, place, steps, is_end):
        """Set what is known of a place, when it is known of all places behind it."""
        moves = {}
        reached = {place: True}
        lengths = 1 if is_end else 0
        for to, new in steps:
            if new == "":
                lengths = lengths | self._lengths[to]
                for other in self._reached[to]:
                    reached[other] = True
            else:
                lengths = lengths | self._lengths[to] << 1
                moves.setdefault(new, []).append(to)
        self._moves[place] = moves
        self._reached[place] = reached
        self._lengths[place] = lengths

    def _behind(self, group, sign):
        """The places that are reached from these ones by a sign."""
        found = {}
        for place in group:
            for to in self._moves[place].get(sign, ()):
                for other in self._reached[to]:
                    found[other] = True
        return found

    def _signs(self, group, length):
        """The ascending signs behind which so many signs can follow."""
        found = [
            sign for place in group for sign in self._moves[place]
            if any([self._lengths[to] >> length & 1 for to in self._moves[place][sign]])
        ]
        return sorted(set(found))

    def _completed(self, word, group, length):
        """The first word of a length that begins with a word, which leads to these places."""
        while len(word) < length:
            sign = self._signs(group, length - len(word) - 1)[0]
            word += sign
            group = self._behind(group, sign)
        return word


def _steps_from(places):
    """For each place on a way of least cost the list of its steps, as the places behind and the new signs."""
    steps = {place: [] for place in places.final_places()}
    queue = list(steps)
    while queue:
        place = queue.pop()
        for near, _, new in places.steps_to(place):
            if near not in steps:
                steps[near] = []
                queue.append(near)
            steps[near].append((place, new))
    return steps
