"""What all kinds of presses have in common."""

from pressroots.errors import NoText


class Press:
    """The base class of the four kinds of presses; only objects of its subclasses are created."""

    def text(self):
        """Return the text that the press describes, or raise NoText."""
        kind, told = self.verdict()
        if kind != "text":
            raise NoText("the press describes no text")
        return told

    def root(self):
        """List the last positions of the phrases of `copies()`, a root of the text."""
        return self.copies().ends()

    def facts(self):
        """List the facts that every kind of press has, as pairs (name, integer)."""
        places = len(self.root())
        return [("length", self.length()), ("size", self.size()), ("root", places)]
