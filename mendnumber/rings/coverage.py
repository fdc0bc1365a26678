"""Which rings of a target cover which rings of a source."""

from mendnumber.rings.groups import group_behind, group_of, steps_inside
from mendnumber.rings.rings import Rings


class Coverage:
    """The rings of a source and a target, where they lead, and which cover which; it never changes."""

    def __init__(self, source, target):
        self.under = rings_behind(source)
        self.over = rings_behind(target)
        self.coverers = {}
        machine = source.states
        inner = {other: steps_inside(target.states, (other,)) for other in self.over}
        for ring in self.under:
            self.coverers[ring] = tuple([
                other for other in self.over if unread_word(machine, ring, inner[other], group_of(other)) is None
            ])


def rings_behind(form):
    """A dict from the rings of a form to the tuples of the rings to which they lead."""
    rings = Rings(form)
    return {ring: tuple([other for other in rings.rings if rings.leads(ring, other)]) for ring in rings.rings}


def unread_word(machine, ring, steps, group):
    """The first word that the first state of a ring reads inside it, and no state of a group reads by these steps.

    None if there is none. Each piece of the ring is the end of a word that the first state reads.
    """
    places = [(ring[0], group)]
    read = {(ring[0], group): ""}
    at = 0
    while at < len(places):
        state, left = places[at]
        if left == 0:
            return read[state, left]
        moves = machine[state][0]
        for sign in sorted(moves):
            place = (moves[sign], group_behind(steps, left, sign))
            if place[0] in ring and place not in read:
                read[place] = read[state, left] + sign
                places.append(place)
        at += 1
    return None
