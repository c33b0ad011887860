"""Crowds: any number of like ones who call some servers."""

from meettasks.bodies import copied
from meettasks.crowdsteps import crowd_steps
from meettasks.likes import check_like


class Crowd:
    """Servers, and the body of like ones; it does not change. What is worked out of it is kept."""

    def __init__(self, servers, body):
        check_like(servers, body)
        self._servers = servers
        self._text = copied(body)
        self.kept = {}

    def __eq__(self, other):
        return isinstance(other, Crowd) and self._servers == other._servers and self._text == other._text

    def servers(self):
        return self._servers

    def body(self):
        return list(copied(self._text))

    def spots(self):
        return list(crowd_steps(self).spots)

    def knowns(self):
        return list(crowd_steps(self).told)
