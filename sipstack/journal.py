"""The journal: records one behind another in a file, of which a torn end does no harm."""

from sipstack.checks import check_length, is_byte
from sipstack.errors import NotRecord, Stalled

LONGEST_RECORD = 200


def records_of(row):
    """A tuple (records, place): the place where the first frame begins that is not wholly there, or None."""
    records = []
    place = 0
    while place < len(row):
        # A frame has as many bytes as its first one tells, itself with them.
        behind = place + row[place]
        if not 1 <= row[place] <= LONGEST_RECORD + 1 or behind > len(row):
            return (records, place)
        records.append(row[place + 1:behind])
        place = behind
    return (records, None)


class Journal:
    """A journal upon a file; frames that were added and not handed on yet are unsent, and end at its end."""

    def __init__(self, file):
        file.check_reading(None)
        file.check_writes()
        file.check_seeks()
        row = whole_row(file)
        records, torn = records_of(row)
        self.file = file
        self.entries = records
        self.unsent = []
        # Where the first keep cuts the file; None where it need not.
        self.torn = torn
        self.end_place = len(row) if torn is None else torn

    def add(self, data):
        self.file.check_open()
        if len(data) > LONGEST_RECORD or not all([is_byte(thing) for thing in data]):
            raise NotRecord()
        frame = [len(data) + 1, *data]
        check_length(self.end_place + len(frame))
        self.entries.append(list(data))
        self.unsent.extend(frame)
        self.end_place += len(frame)

    def keep(self):
        self.file.check_open()
        # Cut ahead of all puts: else bytes behind a torn frame could be taken for a part of a new one.
        if self.torn is not None:
            self.file.cut(self.torn)
            self.torn = None
        if self.unsent:
            self.file.seek(self.end_place - len(self.unsent))
        self.file.hand_down(self.unsent)

    def records(self):
        return [list(record) for record in self.entries]

    def kept(self):
        """How many records lie wholly in the raw's row."""
        reach = self.end_place - len(self.unsent) - len(self.file.waiting())
        count = 0
        behind = 0
        for record in self.entries:
            behind += len(record) + 1
            if behind <= reach:
                count += 1
        return count

    def __len__(self):
        return len(self.entries)


def whole_row(file):
    """The file's row, read from its beginning; refused with Stalled where it stalls and nothing more is told."""
    file.seek(0)
    row = []
    while len(row) < file.size():
        came = file.read(file.size() - len(row))
        if came is None:
            raise Stalled()
        row.extend(came)
    return row
