"""The refusals of calmcount."""


# The one class by which an asker can take any refusal.
class CountError(ValueError):
    pass


class NotCalm(CountError):
    pass


class NoPlace(CountError):
    pass


class NothingDone(CountError):
    pass


class NoText(CountError):
    pass
