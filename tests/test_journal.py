"""Points 39 and 40: journals."""

import itertools
import random
import unittest

from helper import FAULT_7, STALLED, asks_of, outcome, refused, told, words_of
from sipstack.device import Device
from sipstack.files import File
from sipstack.journal import Journal, records_of
from sipstack.rows import laid
from sipstack.stretch import Stretch


def frames(records):
    return [byte for record in records for byte in [len(record) + 1] + record]


def model_records(row):
    """The records of a row, found by trying how long its beginning of whole frames can be."""
    if not row:
        return [], None
    many = row[0]
    if many == 0 or many > 201 or len(row) < many:
        return [], 0
    records, place = model_records(row[many:])
    return [row[1:many]] + records, None if place is None else place + many


class Records(unittest.TestCase):
    def test_frames_as_they_are(self):
        self.assertEqual(records_of([]), ([], None))
        self.assertEqual(records_of([1]), ([[]], None))
        self.assertEqual(records_of([2, 7, 1, 3, 0, 255]), ([[7], [], [0, 255]], None))
        self.assertEqual(records_of([201] + [5] * 200), ([[5] * 200], None))

    def test_cut_at_each_place(self):
        records = [[7], [], [0, 255, 3], [9] * 5, []]
        row = frames(records)
        ends = list(itertools.accumulate([0] + [len(record) + 1 for record in records]))
        for size in range(len(row) + 1):
            whole = max(many for many, end in enumerate(ends) if end <= size)
            place = None if ends[whole] == size else ends[whole]
            self.assertEqual(records_of(row[:size]), (records[:whole], place))

    def test_first_bytes(self):
        for first in (0, 202, 203, 255):
            self.assertEqual(records_of([first] + [1] * 300), ([], 0))
            self.assertEqual(records_of([2, 9, first]), ([[9]], 2))
        self.assertEqual(records_of([201] + [1] * 199), ([], 0))
        self.assertEqual(records_of([201] + [1] * 201), ([[1] * 200, []], None))

    def test_any_rows(self):
        chance = random.Random(39)
        for _ in range(500):
            row = [chance.choice((0, 1, 1, 2, 2, 3, 4, 201, 202)) for _ in range(chance.randint(0, 12))]
            self.assertEqual(records_of(row), model_records(row))

    def test_lists_are_the_askers_own(self):
        row = [2, 7]
        records_of(row)[0][0].append(1)
        self.assertEqual((row, records_of(row)), ([2, 7], ([[7]], None)))


class Making(unittest.TestCase):
    def test_refusals_in_their_order(self):
        file = File(Device([1], seeks=False), reads=False)
        self.assertEqual(outcome(Journal, file), refused("NoReads"))
        file.close()
        self.assertEqual(outcome(Journal, file), refused("Closed"))
        self.assertEqual(outcome(Journal, File(Device([1], seeks=False), writes=False)), refused("NoWrites"))
        self.assertEqual(outcome(Journal, File(Device([1]), writes=False)), refused("NoWrites"))

    def test_what_waits_in_the_file_is_put_and_read(self):
        device = Device([2, 7, 0, 0])
        file = File(device)
        file.seek(2)
        file.write([1, 1])
        journal = Journal(file)
        self.assertEqual((journal.records(), len(journal), journal.kept()), ([[7], [], []], 3, 3))
        self.assertEqual(device.content(), [2, 7, 1, 1])

    def test_stalls_and_faults_at_each_ask_of_the_making(self):
        row = frames([[7, 8], [9], []])
        for at, number in itertools.product(range(6), (0, -7)):
            device = Device(row, plan=[1] * at + [number])
            file = File(device, room=1)
            file.seek(len(row))
            file.write([1])
            answer = outcome(Journal, file)
            if answer[0] == "refused":
                self.assertEqual(answer, FAULT_7 if number else STALLED)
                self.assertEqual(device.log()[-1][3], "fault" if number else "stall")
                answer = outcome(Journal, file)
            self.assertEqual(answer[0], "told")
            self.assertEqual(answer[1].records(), [[7, 8], [9], [], []])


class Calls(unittest.TestCase):
    def test_adding_asks_nothing(self):
        device = Device([2, 7, 9], plan=[400, 400, -7])
        journal = Journal(File(device))
        asked = len(device.log())
        data = [1, 2]
        self.assertEqual(journal.add(data), None)
        data.append(3)
        self.assertEqual((len(device.log()), device.content()), (asked, [2, 7, 9]))
        self.assertEqual((journal.records(), len(journal), journal.kept()), ([[7], [1, 2]], 2, 1))
        journal.records()[1].append(5)
        self.assertEqual(journal.records(), [[7], [1, 2]])

    def test_keep_and_a_journal_made_anew(self):
        device = Device([])
        file = File(device, room=2)
        journal = Journal(file)
        journal.add([])
        journal.add([5] * 200)
        self.assertEqual((journal.keep(), journal.kept()), (None, 2))
        self.assertEqual(device.content(), frames([[], [5] * 200]))
        journal.add([6])
        journal.keep()
        file.detach()
        anew = Journal(File(device))
        self.assertEqual((anew.records(), anew.kept()), ([[], [5] * 200, [6]], 3))
        anew.add([7])
        anew.keep()
        self.assertEqual(records_of(device.content()), ([[], [5] * 200, [6], [7]], None))

    def test_a_torn_end_is_cut_by_the_first_keep(self):
        for torn in ([0], [5, 1], [202, 1, 1], [255] * 9, [0, 2, 7], [201] + [1] * 30):
            for added in ([], [[3]], [[1] * 40]):
                device = Device(frames([[7], [8]]) + torn)
                journal = Journal(File(device, room=3))
                self.assertEqual((journal.records(), journal.kept()), ([[7], [8]], 2))
                for record in added:
                    journal.add(record)
                self.assertEqual(journal.kept(), 2)
                journal.keep()
                self.assertEqual(device.content(), frames([[7], [8]] + added))
                self.assertEqual(words_of(device.log()).count("cut"), 1)
                journal.keep()
                self.assertEqual(words_of(device.log()).count("cut"), 1)

    def test_no_cut_where_nothing_is_torn(self):
        device = Device(frames([[7]]))
        journal = Journal(File(device))
        self.assertEqual(asks_of(device, journal.keep), (told(None), []))
        journal.add([1])
        journal.keep()
        self.assertNotIn("cut", words_of(device.log()))

    def test_upon_a_stretch(self):
        device = Device([9] * 4 + frames([[7]]) + [0] * 6)
        ground = File(device)
        journal = Journal(File(Stretch(ground, 4, 2), room=2))
        journal.add([1])
        self.assertEqual(outcome(journal.keep), refused("Fault", number=98, taken=0))
        self.assertEqual((journal.records(), journal.kept()), ([[7], [1]], 1))
        journal = Journal(File(Stretch(ground, 4, 5)))
        journal.add([1])
        for _ in range(2):
            self.assertEqual(outcome(journal.keep), refused("NoCut"))
        self.assertEqual(journal.kept(), 1)
        ground.flush()
        self.assertEqual(device.content(), [9] * 4 + frames([[7]]) + [0] * 6)
        short = Device(frames([[7]]))
        ground = File(short)
        journal = Journal(File(Stretch(ground, 0, 40)))
        journal.add([1])
        journal.keep()
        ground.flush()
        self.assertEqual(short.content(), frames([[7], [1]]))

    def test_no_record(self):
        device = Device([])
        journal = Journal(File(device))
        for data in ([0] * 201, [256], [1, -1], [True], ["a"], [None], [1.0], [0] * 200 + [256]):
            self.assertEqual(outcome(journal.add, data), refused("NotRecord"))
        self.assertEqual((journal.records(), len(journal), journal.kept()), ([], 0, 0))
        journal.keep()
        self.assertEqual(device.content(), [])

    def test_too_long(self):
        device = Device(frames([[1] * 199] * 19) + [0] * 100)
        journal = Journal(File(device, room=64))
        journal.add([2] * 149)
        self.assertEqual(outcome(journal.add, [3] * 50), refused("TooLong", length=4001))
        self.assertEqual(outcome(journal.add, [3] * 200), refused("TooLong", length=4151))
        self.assertEqual(outcome(journal.add, [3] * 200 + [256]), refused("NotRecord"))
        self.assertEqual(len(journal), 20)
        journal.add([3] * 49)
        self.assertEqual(outcome(journal.add, []), refused("TooLong", length=4001))
        journal.keep()
        self.assertEqual((len(device), journal.kept(), len(journal)), (4000, 21, 21))
        self.assertEqual(records_of(device.content()), (journal.records(), None))

    def test_a_closed_file(self):
        for ending in ("close", "detach"):
            file = File(Device(frames([[7]])))
            journal = Journal(file)
            journal.add([8])
            getattr(file, ending)()
            self.assertEqual(outcome(journal.add, [256] * 300), refused("Closed"))
            self.assertEqual(outcome(journal.keep), refused("Closed"))
            self.assertEqual((journal.records(), len(journal)), ([[7], [8]], 2))


class ThroughStallsAndFaults(unittest.TestCase):
    def check(self, device, file, journal, added):
        waits = file.waiting()
        self.assertEqual(journal.records(), added)
        self.assertEqual(len(journal), len(added))
        there, _ = records_of(device.content())
        self.assertEqual(there, added[:len(there)])
        kept = journal.kept()
        self.assertLessEqual(kept, len(there))
        whole = laid(device.content(), file.tell() - len(waits), waits) if waits else device.content()
        self.assertEqual(records_of(whole)[0], added[:len(records_of(whole)[0])])
        return kept, len(there)

    def test_long_rows(self):
        for seed in range(400):
            chance = random.Random(seed)
            added = [[chance.randrange(256) for _ in range(chance.choice((0, 1, 3, 9)))] for _ in range(chance.randint(0, 4))]
            torn = chance.choice(([], [0], [9, 1], [202], [1, 1, 0], [255] * 20))
            row = frames(added) + torn
            added, place = records_of(row)
            plan = [chance.choice((0, -7, 1, 2, 3, 400)) for _ in range(chance.choice((0, 30, 100)))]
            device = Device(row, plan=plan)
            file = File(device, room=chance.choice((1, 2, 8)))
            while (answer := outcome(Journal, file))[0] == "refused":
                self.assertIn(answer, (FAULT_7, STALLED))
                self.assertEqual(device.content(), row)
            journal = answer[1]
            for _ in range(30):
                self.one_step(chance, device, file, journal, added)
            while outcome(journal.keep) != told(None):
                pass
            self.assertEqual(device.content(), frames(added))
            self.assertEqual(journal.kept(), len(added))

    def one_step(self, chance, device, file, journal, added):
        if chance.random() < 0.5:
            record = [chance.randrange(256) for _ in range(chance.choice((0, 1, 3, 12)))]
            self.assertEqual(asks_of(device, journal.add, record), (told(None), []))
            added.append(record)
        else:
            answer, asks = asks_of(device, journal.keep)
            last = asks[-1][3] if asks else None
            if answer == told(None):
                self.assertEqual((device.content(), journal.kept()), (frames(added), len(added)))
                self.assertEqual(file.waiting(), [])
            else:
                self.assertEqual(answer, FAULT_7 if last == "fault" else STALLED)
                self.assertIn(last, ("fault", "stall"))
        kept, there = self.check(device, file, journal, added)
        self.assertEqual(kept, there)
        anew = Journal(File(Device(device.content())))
        self.assertEqual(anew.records(), added[:there])

    def test_what_a_reader_tells_of_a_journal_that_was_cut_anywhere(self):
        records = [[1, 2, 3], [], [200] * 20, [4]]
        row = frames(records)
        for size in range(len(row) + 1):
            device = Device(row[:size])
            journal = Journal(File(device))
            there = journal.records()
            self.assertEqual(there, records[:len(there)])
            journal.add([77])
            journal.keep()
            self.assertEqual(records_of(device.content()), (there + [[77]], None))


if __name__ == "__main__":
    unittest.main()
