"""What the program refuses with: one class for each kind of refusal."""


class HandError(ValueError):
    """Whatever the program refuses."""


class BadGroup(HandError):
    """No group can be made so: at is 0 for held, 1 for leaves, 2 for barred."""

    def __init__(self, at):
        self.at = at


class NoName(HandError):
    """What should be a name is none."""


class NoPerson(HandError):
    """Nobody in the group is called so; name is whatever was asked for."""

    def __init__(self, name):
        self.name = name


class NoPage(HandError):
    """No page is called so; name is whatever was asked for."""

    def __init__(self, name):
        self.name = name


class Twice(HandError):
    """The name stands already."""

    def __init__(self, name):
        self.name = name


class Barred(HandError):
    """These two may not call one another."""


class Idle(HandError):
    """Neither would get anything by the call."""


class Uneven(HandError):
    """The one would give and get different numbers of leaves."""

    def __init__(self, gives, gets):
        self.gives = gives
        self.gets = gets


class NoCall(HandError):
    """At this place of a row stands no call that can be made."""

    def __init__(self, at):
        self.at = at


class NoNumber(HandError):
    """What should be a number within bounds is none."""


class NoWay(HandError):
    """The question can't be asked this way."""


class TooMany(HandError):
    """There would be too many people or pages, or nobody."""


class Spoils(HandError):
    """The call would take the last plan; stuck are those left without a matching."""

    def __init__(self, stuck):
        self.stuck = stuck


class NoDeed(HandError):
    """At this place of a row stands no deed."""

    def __init__(self, at):
        self.at = at


class NoBack(HandError):
    """No deed stands that could be taken back."""


class NoText(HandError):
    """The text of a group can't go on with this row."""

    def __init__(self, row):
        self.row = row
