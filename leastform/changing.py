"""Places in a form, and what changes from an old form to a new one: where, how, and whom it breaks."""

from leastform.errors import NoPath
from leastform.forms import KINDS, part_for
from leastform.holding import forms_held, parted, shell_within


# The forms straight within a form, each with the step that leads there.
def steps_within(form):
    steps = []
    for part in form:
        # Held against itself, a part tells each form within it once.
        steps.extend([(held[0], held[1]) for held in forms_held(part, part)])
    return steps


def places_in(form):
    places = [()]
    for found in steps_within(form):
        places.extend([(found[0],) + place for place in places_in(found[1])])
    return places


def form_behind_step(form, step):
    for found in steps_within(form):
        if found[0] == step:
            return found[1]
    raise NoPath("a step leads nowhere in the form")


def form_at(form, place):
    if not isinstance(place, tuple):
        raise NoPath("a place is a tuple of steps")
    here = form
    for step in place:
        here = form_behind_step(here, step)
    return here


# None where there is no part, or the two say the same beside the forms within them.
def way_of(old, new):
    if old is None:
        return None if new is None else "come"
    if new is None:
        return "gone"
    forth = shell_within(old, new)
    back = shell_within(new, old)
    if forth and back:
        return None
    if forth:
        return "wider"
    return "narrower" if back else "other"


def changes_from(place, old, new):
    here = []
    deeper = []
    for kind in KINDS:
        old_part = part_for(old, kind)
        new_part = part_for(new, kind)
        way = way_of(old_part, new_part)
        if way is not None:
            here.append((place, kind, way))
        if old_part is not None and new_part is not None:
            for held in forms_held(old_part, new_part):
                deeper.extend(changes_from(place + (held[0],), held[1], held[2]))
    return here + deeper


def changes(old, new):
    return changes_from((), old, new)


def breaks(old, new):
    return (parted(old, new), parted(new, old))
