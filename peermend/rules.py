"""Rules: the five choices of a repair ([20])."""

from peermend.errors import InvalidNumber, InvalidRules

# The first word of each name is the standard choice.
_WORDS = {
    "hook": ("back", "forward"),
    "relay": ("near", "far"),
    "clamp": ("inner", "outer"),
    "trail": ("near", "far"),
    "wheel": ("even", "odd"),
}


class Rules:
    """Five choices between two words each."""

    COUNT = 32
    NAMES = ("hook", "relay", "clamp", "trail", "wheel")

    def __init__(self, *, hook="back", relay="near", clamp="inner", trail="near", wheel="even"):
        self._choices = {}
        self.change("hook", hook)
        self.change("relay", relay)
        self.change("clamp", clamp)
        self.change("trail", trail)
        self.change("wheel", wheel)

    @property
    def hook(self):
        """The choice at hooks."""
        return self._choices["hook"]

    @hook.setter
    def hook(self, choice):
        self.change("hook", choice)

    @property
    def relay(self):
        """The choice at relays."""
        return self._choices["relay"]

    @relay.setter
    def relay(self, choice):
        self.change("relay", choice)

    @property
    def clamp(self):
        """The choice at clamps."""
        return self._choices["clamp"]

    @clamp.setter
    def clamp(self, choice):
        self.change("clamp", choice)

    @property
    def trail(self):
        """The choice at trails."""
        return self._choices["trail"]

    @trail.setter
    def trail(self, choice):
        self.change("trail", choice)

    @property
    def wheel(self):
        """The choice at wheels."""
        return self._choices["wheel"]

    @wheel.setter
    def wheel(self, choice):
        self.change("wheel", choice)

    @property
    def number(self):
        """The number of the rules, from 0 to 31: the bits stand in the order of the names."""
        seconds = [self._choices[name] == _WORDS[name][1] for name in Rules.NAMES]
        return sum([1 << at for at, second in enumerate(seconds) if second])

    def change(self, name, choice):
        """Replace the choice of the name."""
        if name not in _WORDS or choice not in _WORDS[name]:
            raise InvalidRules(name)
        self._choices[name] = choice

    def choice(self, name):
        """Return the present choice of the name."""
        if name not in _WORDS:
            raise InvalidRules(name)
        return self._choices[name]

    def copy(self):
        """Return other rules with the same choices."""
        return Rules.numbered(self.number)

    @classmethod
    def numbered(cls, number):
        """Return the rules with the number."""
        if number < 0 or number >= Rules.COUNT:
            raise InvalidNumber(number)
        words = [_WORDS[name][number >> at & 1] for at, name in enumerate(Rules.NAMES)]
        return cls(hook=words[0], relay=words[1], clamp=words[2], trail=words[3], wheel=words[4])

    def __eq__(self, other):
        return isinstance(other, Rules) and self.number == other.number

    def __repr__(self):
        return f"Rules({self.number})"


def or_standard(rules):
    """Return the rules, or the standard rules for None."""
    return Rules() if rules is None else rules
