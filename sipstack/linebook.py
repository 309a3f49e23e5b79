"""The book of lines: it tells the lines of a text by their numbers."""

from sipstack.errors import NoLine, SipError


class LineBook:
    """A book of lines upon a text, which stands behind each asking where it stood ahead of it."""

    def __init__(self, text):
        text.check_reading(None)
        text.file.check_seeks()
        self.text = text
        # Cookies, one for each line that was found, and one more: where the next line begins, if there is one.
        self.begins = [None]
        self.seen_changes = text.changes()

    def line(self, k):
        self.text.check_open()
        if k < 0:
            raise NoLine(k)
        stood = self.text.tell()
        try:
            found = self.find_line(k)
        except SipError:
            self.text.go(stood)
            raise
        self.text.go(stood)
        return found

    def lines(self):
        """How many lines there are."""
        stood = self.text.tell()
        try:
            self.find_all()
        except SipError:
            self.text.go(stood)
            raise
        self.text.go(stood)
        return len(self.begins) - 1

    def find_line(self, k):
        """Line k, read alone where it was found already, else behind those that were not."""
        self.forget_what_changed()
        at = min(k, len(self.begins) - 1)
        self.text.go(self.begins[at])
        line = self.pass_line(at)
        while line and at < k:
            at += 1
            line = self.pass_line(at)
        if not line:
            raise NoLine(k)
        return line

    def find_all(self):
        self.forget_what_changed()
        self.text.go(self.begins[-1])
        while self.pass_line(len(self.begins) - 1):
            pass

    def pass_line(self, at):
        """The line at which the text stands, of this number; where the next one begins is kept. [] at the row's end."""
        line = self.text.whole_line()
        if line and at + 1 == len(self.begins):
            self.begins.append(self.text.tell())
        return line

    def forget_what_changed(self):
        if self.text.changes() != self.seen_changes:
            self.begins = [None]
            self.seen_changes = self.text.changes()
