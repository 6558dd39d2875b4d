"""Cores: samples that tell as much as all of a row, and none of which is idle there."""

from leastform.joining import form_of, joined


# At each place the form told of the samples from there on; one more at the end, of none.
def tails_told(forms):
    tails = [()]
    for form in reversed(forms):
        tails.append(joined(form, tails[-1]))
    return list(reversed(tails))


# A sample is left out where those kept ahead of it and all behind it tell the whole without it. What
# must stay then must stay later, too, as fewer samples never tell more.
def core(samples):
    forms = [form_of(sample) for sample in samples]
    tails = tails_told(forms)
    kept = ()
    places = []
    for place in range(len(forms)):
        if joined(kept, tails[place + 1]) != tails[0]:
            places.append(place)
            kept = joined(kept, forms[place])
    return tuple(places)
