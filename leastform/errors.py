"""The refusals. Each stands straight under FormError, so that taking one never takes another."""


class FormError(ValueError):
    pass


class NoPath(FormError):
    pass


class NoSamples(FormError):
    pass


class NoValue(FormError):
    pass


class NoText(FormError):
    pass


class NoName(FormError):
    pass


class NoDeed(FormError):
    pass


class Full(FormError):
    pass


class NoRow(FormError):
    pass


class NotLet(FormError):
    def __init__(self, path, word):
        FormError.__init__(self, f"not let by at {path!r}: {word}")
        self.path = path
        self.word = word
