"""A shell: commands that edit a workspace and run a store."""

from keywise.errors import InvalidCommand, InvalidNumber
from keywise.rules.rules import is_between
from keywise.store.store import Store
from keywise.text.commands import FORMS, NEED_A_STORE, OF_STORE, OF_WORKSPACE, first_word, listed, parts_of, values_of
from keywise.workspace.workspace import Workspace


class Shell:
    """A workspace and, while one is open, a store, for which commands are carried out."""

    def __init__(self, rule):
        self._workspace = Workspace(rule)
        self._store = None
        # The messages that were sent since the store was opened.
        self._sent = []
        self._answers = []

    def run(self, line):
        """Carry out a command, and return its answer."""
        word, texts = parts_of(line)
        if self._store is None and word in NEED_A_STORE:
            raise InvalidCommand("no store is open")
        answer = self._carry_out(word, values_of(self._workspace.rule[0], word, texts))
        self._answers.append(answer)
        return answer

    def answers(self, *lines):
        """Carry out the commands, each when its answer is asked for, and yield the answers."""
        for line in lines:
            yield self.run(line)

    def workspace(self):
        """Return an independent workspace that is equal to that of the shell."""
        return self._workspace.twin()

    def store(self):
        """Return an independent store that is equal to that of the shell, or None if none is open."""
        return None if self._store is None else self._store.twin()

    def __len__(self):
        return len(self._answers)

    def __contains__(self, value):
        return isinstance(value, str) and first_word(value) in FORMS

    def __str__(self):
        return f"shell with {len(self._answers)} answers"

    def __eq__(self, other):
        if not isinstance(other, Shell) or self._workspace != other._workspace or self._store != other._store:
            return False
        return self._sent == other._sent and len(self._answers) == len(other._answers)

    def _carry_out(self, word, values):
        """Carry out the command with this word for these values, and return its answer."""
        if word in OF_WORKSPACE:
            told = OF_WORKSPACE[word]
            return told(self._workspace, *values)
        if word in OF_STORE:
            told = OF_STORE[word]
            return told(self._store, *values)
        if word == "open":
            return self._begin_store(*values)
        if word == "close":
            return self._end_store()
        if word == "send":
            return self._send(*values)
        if word == "deliver":
            return self._deliver(*values)
        return f"{str(self._workspace)}; {'no store' if self._store is None else str(self._store)}"

    def _begin_store(self, row, policy):
        self._store = Store(self._workspace.rule, policy, row)
        self._sent = []
        return "ok"

    def _end_store(self):
        self._store = None
        self._sent = []
        return "ok"

    def _send(self, replica):
        self._sent.append(self._store.outgoing(replica))
        return str(len(self._sent) - 1)

    def _deliver(self, number, replica):
        if not is_between(0, len(self._sent) - 1, number):
            raise InvalidNumber(number)
        newer = self._store.deliver(replica, self._sent[number])
        return listed([str(other) for other in newer], " ")
