"""A shell: a bench that is asked by lines of text, and answers so."""

from lastprices.errors import InvalidMachine, InvalidNumber, InvalidOperation, InvalidText
from lastprices.errors import NothingToUndo, NotTaken, ParseError, Refused, TooMany, UnknownName
from lastprices.text.commands import answered, written_pledge
from lastprices.text.texts import read_machine
from lastprices.use.bench import Bench


class Shell:
    """A bench that answers to commands."""

    def __init__(self, text):
        self._bench = Bench(read_machine(text))
        # One entry for each command that was answered without an error.
        self._answered = []

    def __call__(self, line):
        return self.answer(line)

    def answer(self, line):
        """The answer to a command."""
        try:
            told = answered(self._bench, line)
        except InvalidMachine:
            return "machine"
        except InvalidText:
            return "text"
        except InvalidOperation:
            return "operation"
        except UnknownName:
            return "unknown"
        except ParseError:
            return "line"
        except InvalidNumber:
            return "number"
        except NotTaken:
            return "not taken"
        except TooMany as excess:
            return f"many {excess.limit}"
        except NothingToUndo:
            return "undo"
        except Refused as refusal:
            return f"refused {written_pledge(refusal.pledge)}"
        if told is None:
            return "what"
        self._answered.append(True)
        return told

    def bench(self):
        """A twin of the bench."""
        return self._bench.twin()

    def __len__(self):
        return len(self._answered)
