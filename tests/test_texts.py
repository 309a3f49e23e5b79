"""Points 29 to 33, 20 and 2: texts, call by call."""

import itertools
import unittest

from helper import FAULT_7, STALLED, TextWatch, asks_of, outcome, refused, told, words_of
from sipstack.device import Device
from sipstack.files import File
from sipstack.pipe import Pipe
from sipstack.texts import Text


def text_of(content, *, plan=(), room=8, seeks=True, reads=True, writes=True, **ways):
    device = Device(content, plan=plan, seeks=seeks)
    return device, Text(File(device, room=room, reads=reads, writes=writes), **ways)


class Making(unittest.TestCase):
    def test_refusals_in_their_order(self):
        file = File(Device([65, 66]))
        file.seek(2)
        bad = {"code": "x", "ends": "y", "wrong": "z"}
        self.assertEqual(outcome(Text, file, **bad), refused("BadPlace", goal=2))
        file.seek(0)
        self.assertEqual(outcome(Text, file, **bad), refused("NoCode", word="x"))
        self.assertEqual(outcome(Text, file, ends="y", wrong="z"), refused("NoEnds", word="y"))
        self.assertEqual(outcome(Text, file, wrong="z"), refused("NoWay", word="z"))
        file.seek(1)
        file.close()
        self.assertEqual(outcome(Text, file, **bad), refused("Closed"))

    def test_it_asks_nothing_and_stands_at_the_beginning(self):
        for code in ("plain", "steps", "wide", "turn"):
            device, text = text_of([65], plan=[-1], code=code)
            self.assertEqual((device.log(), text.waiting(), text.changes()), ([], [], 0))
            self.assertEqual((text.closed(), text.lost(), text.busy()), (False, [], False))
            cookie = text.tell()
            text.go(cookie)
            text.go()
            self.assertEqual(device.log(), [])

    def test_words_that_are_left_out(self):
        device, text = text_of([195, 169, 13, 10, 255])
        self.assertEqual(text.read(), [233, 10])
        self.assertEqual(outcome(text.read), refused("BadCode", at=4))

    def test_upon_a_file_that_knows_bytes_already(self):
        file = File(Device(list(range(65, 85))), room=2)
        file.peek(20)
        text = Text(file)
        self.assertEqual(text.read(5), [65, 66, 67, 68, 69])
        self.assertEqual(text.read(), list(range(70, 85)))


class Refusals(unittest.TestCase):
    def test_a_file_that_does_not_read(self):
        device, text = text_of([65], reads=False)
        for word, handed in (("read", (-1,)), ("peek", (-1,)), ("readline", (-1,)), ("go_end", ())):
            self.assertEqual(asks_of(device, getattr(text, word), *handed), (refused("NoReads"), []))
        self.assertEqual(text.write([66]), 1)
        text.flush()
        self.assertEqual(device.content(), [66])

    def test_a_file_that_does_not_write(self):
        device, text = text_of([65], writes=False)
        for word, handed in (("write", ([-1],)), ("write", ([],)), ("cut", ())):
            self.assertEqual(asks_of(device, getattr(text, word), *handed), (refused("NoWrites"), []))
        self.assertEqual(text.read(), [65])

    def test_a_raw_that_does_not_seek(self):
        device, text = text_of([65], seeks=False, writes=False)
        for word, handed in (("tell", ()), ("go", ()), ("go", ((0, 0),)), ("go_end", ())):
            self.assertEqual(asks_of(device, getattr(text, word), *handed), (refused("NoSeek"), []))
        self.assertEqual(outcome(text.cut), refused("NoWrites"))
        device, text = text_of([65], seeks=False, reads=False)
        self.assertEqual(outcome(text.go_end), refused("NoReads"))
        text.write([66])
        self.assertEqual(asks_of(device, text.cut), (refused("NoSeek"), []))

    def test_counts_below_nought_and_of_nought(self):
        device, text = text_of([255, 65], plan=[0])
        text.write([65])
        for word in ("read", "peek", "readline"):
            self.assertEqual(asks_of(device, getattr(text, word), -1), (refused("BadCount"), []))
            self.assertEqual(asks_of(device, getattr(text, word), 0), (told([]), []))

    def test_signs_that_the_code_has_not_come_ahead_of_too_long(self):
        device, text = text_of([65] * 3990)
        text.read()
        self.assertEqual(outcome(text.write, [65] * 20 + [-1, 9999999]), refused("NoSign", sign=-1))
        self.assertEqual(outcome(text.write, [65] * 20 + [True]), refused("NoSign", sign=True))
        self.assertEqual(outcome(text.write, [65] * 20), refused("TooLong", length=4010))
        self.assertEqual(outcome(text.write, [233] * 6), refused("TooLong", length=4002))
        self.assertEqual((text.waiting(), text.changes()), ([], 0))
        self.assertEqual(outcome(text.write, [233] * 5), told(5))
        self.assertEqual(outcome(text.write, [65]), refused("TooLong", length=4001))
        self.assertEqual(outcome(text.write, []), told(0))
        self.assertEqual(text.changes(), 1)

    def test_no_write_is_too_long_upon_a_raw_that_does_not_seek(self):
        device, text = text_of([], seeks=False, reads=False)
        for _ in range(50):
            text.write([65] * 100)
        text.flush()
        self.assertEqual(len(device), 5000)

    def test_a_closed_text(self):
        for ending in ("close", "detach"):
            device, text = text_of([65])
            getattr(text, ending)()
            calls = (
                ("read", (-1,)), ("peek", (-1,)), ("readline", (-1,)), ("write", ([-1],)), ("tell", ()), ("go", ()),
                ("go_end", ()), ("cut", ()), ("flush", ()), ("waiting", ()), ("changes", ()), ("detach", ()),
            )
            for word, handed in calls:
                self.assertEqual(asks_of(device, getattr(text, word), *handed), (refused("Closed"), []), word)
            self.assertEqual((text.close(), text.closed(), text.lost(), text.busy()), (None, True, [], False))
            self.assertEqual(device.is_shut(), ending == "close")


class Reading(unittest.TestCase):
    def test_between_a_return_and_a_feed(self):
        lines = {"any": [10], "kept": [10], "feed": [10], "return": [10, 66, 13], "both": [10, 66, 13, 10]}
        for ends, line in lines.items():
            device, text = text_of([65, 13, 10, 66, 13, 10], ends=ends)
            if ends == "any":
                device, text = text_of([65, 13], ends=ends)
                self.assertEqual(text.read(2), [65, 10])
                device.grow([10, 66, 13, 10])
            else:
                self.assertEqual(text.read(2), [65, 13])
            self.assertEqual(text.readline(), line, ends)

    def test_lines_by_each_way(self):
        row = [65, 10, 66, 13, 67, 13, 10, 13, 13, 10, 68]
        due = {
            "any": [[65, 10], [66, 10], [67, 10], [10], [10], [68], []],
            "kept": [[65, 10], [66, 13], [67, 13, 10], [13], [13, 10], [68], []],
            "feed": [[65, 10], [66, 13, 67, 13, 10], [13, 13, 10], [68], []],
            "return": [[65, 10, 66, 13], [67, 13], [10, 13], [13], [10, 68], []],
            "both": [[65, 10, 66, 13, 67, 13, 10], [13, 13, 10], [68], []],
        }
        for ends, lines in due.items():
            for plan in ((), [1] * 30):
                device, text = text_of(row, plan=plan, ends=ends, room=3)
                self.assertEqual([text.readline() for _ in lines], lines)

    def test_a_limit_within_a_line_end(self):
        for ends in ("kept", "both"):
            device, text = text_of([65, 13, 10, 66], ends=ends)
            self.assertEqual((text.readline(2), text.readline(1)), ([65, 13], [10]))
            device, text = text_of([65, 13, 10, 66], plan=[2, 0], ends=ends)
            self.assertEqual(text.readline(2), [65, 13])

    def test_wrong_bytes_by_strict_again_at_each_asking(self):
        device, text = text_of([65, 66, 255, 67])
        self.assertEqual(text.peek(9), [65, 66])
        self.assertEqual(text.readline(), [65, 66])
        for word in ("read", "peek", "readline", "read"):
            self.assertEqual(outcome(getattr(text, word)), refused("BadCode", at=2))
        self.assertEqual(text.tell(), (2, 0))
        device, text = text_of([254, 255, 7], code="wide")
        self.assertEqual(outcome(text.read), refused("BadCode", at=2))

    def test_wrong_bytes_by_mark(self):
        device, text = text_of([65, 255, 13, 195], wrong="mark")
        self.assertEqual(text.peek(9), [65, 65533, 10, 65533])
        self.assertEqual([text.read(1) for _ in range(5)], [[65], [65533], [10], [65533], []])

    def test_a_return_and_a_torn_sign_settled_by_the_end_and_grown_later(self):
        device, text = text_of([13])
        self.assertEqual(text.read(1), [10])
        device.grow([10, 66])
        self.assertEqual(text.read(), [10, 66])
        device, text = text_of([195])
        self.assertEqual(outcome(text.read), refused("BadCode", at=0))
        device.grow([169])
        self.assertEqual(text.read(), [233])
        device, text = text_of([13])
        self.assertEqual(text.peek(), [10])
        device.grow([10, 66])
        self.assertEqual((text.read(1), text.read(1)), ([10], [66]))

    def test_a_read_behind_a_peek_asks_nothing(self):
        for row, signs in (([13], [10]), ([65, 13, 10], [65, 10]), ([65, 195], [65, 65533]), ([254], [65533])):
            device, text = text_of(row, wrong="mark")
            self.assertEqual(text.peek(5), signs)
            for at in range(len(signs)):
                device.grow([])
                self.assertEqual(asks_of(device, text.read, 1)[0], told([signs[at]]))
            device, text = text_of(row, wrong="mark")
            text.peek(5)
            self.assertEqual(asks_of(device, text.read, len(signs)), (told(signs), []))

    def test_no_end_is_kept(self):
        device, text = text_of([65])
        self.assertEqual(text.read(), [65])
        for _ in range(3):
            self.assertEqual(asks_of(device, text.read), (told([]), [("take", 1, 4000, [])]))
        device.grow([66])
        self.assertEqual(text.read(), [66])

    def test_a_mark_alone_is_no_sign_and_stays(self):
        device, text = text_of([255, 254], code="wide")
        self.assertEqual((text.read(), text.read(), text.tell()), ([], [], (0, 0)))
        device.grow([65, 0])
        self.assertEqual(text.read(), [65])

    def test_stalls(self):
        device, text = text_of([65, 13, 10], plan=[2, 0, 0])
        self.assertEqual(text.read(), [65])
        self.assertEqual(text.read(), None)
        self.assertEqual(text.read(), [10])
        for ends in ("kept", "both"):
            device, text = text_of([65, 13, 10], plan=[2, 0], ends=ends)
            self.assertEqual((text.readline(), text.readline()), ([65], [13, 10]))
        device, text = text_of([195, 169], plan=[1, 0, -7])
        self.assertEqual(text.read(1), None)
        self.assertEqual(outcome(text.read, 1), FAULT_7)
        self.assertEqual(text.read(1), [233])

    def test_a_row_with_longest_bytes_read_byte_by_byte(self):
        device, text = text_of([65] * 3600 + [13] * 400, plan=[1] * 400, room=1)
        self.assertEqual(text.read(), [65] * 3600 + [10] * 400)


class Places(unittest.TestCase):
    def test_cookies_lead_back(self):
        row = [129, 1, 2, 128, 65, 13, 128, 10, 130, 7]
        device, text = text_of(row, code="turn")
        cookies, signs = [], []
        while True:
            cookies.append(text.tell())
            told_now = text.read(1)
            if not told_now:
                break
            signs += told_now
        for at, cookie in enumerate(cookies):
            text.go(cookie)
            self.assertEqual(text.tell(), cookie)
            self.assertEqual(text.read(), signs[at:])
        text.go(None)
        self.assertEqual(text.read(), signs)

    def test_the_same_byte_place_in_another_state_is_another_place(self):
        device, text = text_of([65, 129], code="turn")
        text.read(1)
        cookie = text.tell()
        text.go_end()
        self.assertEqual(text.tell(), (2, 1))
        text.go(cookie)
        text.write([65])
        text.go()
        self.assertEqual(text.read(), [65, 65])

    def test_go_end_behind_marks_turning_bytes_and_wrong_bytes(self):
        cases = (
            ("turn", [65, 129], [130], [65, 130]), ("turn", [129, 1, 130, 128], [65], [129, 65]),
            ("wide", [], [65], [65]), ("wide", [255, 254], [65], [65]), ("wide", [254, 255], [65], [65]),
            ("wide", [255, 254, 65, 0], [66], [65, 66]), ("wide", [0, 65], [66], [65, 66]),
            ("steps", [65, 255], [66], [65, 65533, 66]), ("plain", [65], [66], [65, 66]), ("turn", [], [200], [200]),
        )
        for code, row, signs, due in cases:
            device, text = text_of(row, code=code, wrong="mark")
            text.go_end()
            text.write(signs)
            text.go()
            self.assertEqual(text.read(), due, (code, row))

    def test_go_end_in_wide_behind_a_wrong_byte(self):
        for row, state in (([7], 2), ([254, 255, 7], 2), ([255, 254, 7], 1), ([254], 2)):
            device, text = text_of(row, code="wide")
            text.go_end()
            self.assertEqual(text.tell(), (len(row), state))

    def test_go_end_goes_on_behind_stalls_and_faults(self):
        row = [65] * 50 + [131] + [66] * 49
        device, text = text_of(row, plan=[1, 0] * 150, code="turn", room=1)
        text.read(3)
        place = text.tell()
        refusals = 0
        while outcome(text.go_end) != told(None):
            refusals += 1
            self.assertEqual(text.tell(), place)
            if refusals == 20:
                self.assertEqual(outcome(text.peek, 1)[0], "told")
            self.assertLess(refusals, 120)
        self.assertEqual(text.tell(), (100, 3))
        self.assertGreater(refusals, 90)

    def test_what_a_refused_go_end_brought_is_known(self):
        device, text = text_of([65, 66, 67, 68], plan=[1, 1, 3, 0], code="turn", room=1)
        text.read(1)
        self.assertEqual(outcome(text.go_end), STALLED)
        self.assertEqual(asks_of(device, text.read, 2), (told([66, 67]), []))

    def test_cut(self):
        watch = TextWatch(self, [65, 66, 67, 68])
        watch.reading("read", 2)
        watch.cut()
        self.assertEqual(watch.device.content(), [65, 66])
        watch.write([67])
        watch.cut()
        self.assertEqual(watch.device.content(), [65, 66, 67])
        watch.tell()
        watch.go(0)
        watch.cut()
        watch.go(1)
        watch.cut()
        self.assertEqual((watch.device.content(), watch.text.changes()), ([], 5))
        watch.write([68])
        watch.flush()
        self.assertEqual(watch.device.content(), [0, 0, 0, 68])

    def test_a_refused_cut(self):
        device, text = text_of([65, 66], plan=[400, -7])
        text.read(1)
        self.assertEqual((outcome(text.cut), text.changes(), device.content()), (FAULT_7, 0, [65, 66]))
        self.assertEqual(asks_of(device, text.read, 1), (told([66]), []))


class Writing(unittest.TestCase):
    def test_a_write_asks_nothing_of_any_length(self):
        device, text = text_of([], plan=[-7] * 3, room=1)
        for _ in range(30):
            self.assertEqual(asks_of(device, text.write, [65] * 100), (told(100), []))
        self.assertEqual((len(text.waiting()), text.changes()), (3000, 30))
        for call in (text.read, text.readline, text.peek):
            self.assertEqual(outcome(call), FAULT_7)
        text.flush()
        self.assertEqual((device.content(), text.waiting()), ([65] * 3000, []))

    def test_all_that_hands_on(self):
        for word in ("read", "peek", "readline", "go", "go_end", "cut", "flush", "detach"):
            for number, refusal in ((0, STALLED), (-7, FAULT_7)):
                device, text = text_of([1, 2, 3], plan=[1, number], room=2)
                text.write([65, 66, 67, 68, 69])
                place = text.tell()
                self.assertEqual(outcome(getattr(text, word)), refusal, word)
                self.assertEqual((text.tell(), text.waiting()), (place, [66, 67, 68, 69]))
                self.assertEqual((device.content(), text.closed()), ([65, 2, 3], False))
                self.assertEqual(outcome(getattr(text, word))[0], "told")
                self.assertEqual(device.content(), [65, 66, 67, 68, 69])

    def test_a_go_to_the_very_place_asks_nothing(self):
        device, text = text_of([1, 2, 3], plan=[-7])
        text.write([65])
        self.assertEqual(asks_of(device, text.go, text.tell()), (told(None), []))
        self.assertEqual(asks_of(device, text.go)[0], FAULT_7)

    def test_line_ends_and_states_as_they_are_written(self):
        rows = {"any": [10], "kept": [10], "feed": [10], "return": [13], "both": [13, 10]}
        for ends, row in rows.items():
            device, text = text_of([], ends=ends)
            self.assertEqual(text.write([65, 10]), 2)
            self.assertEqual(text.waiting(), [65] + row)
        device, text = text_of([], code="wide")
        text.write([65])
        text.write([66])
        self.assertEqual(text.waiting(), [254, 255, 0, 65, 0, 66])
        device, text = text_of([255, 254, 65, 0], code="wide")
        text.read(1)
        text.write([66])
        self.assertEqual(text.waiting(), [66, 0])

    def test_handed_and_told_lists_are_the_askers_own(self):
        device, text = text_of([65, 66, 67])
        signs = [68]
        text.write(signs)
        signs[0] = 1
        text.waiting().clear()
        self.assertEqual(text.waiting(), [68])
        text.peek(2).clear()
        text.peek(2)[0] = 9
        self.assertEqual(text.read(2), [66, 67])


class Ending(unittest.TestCase):
    def test_close_that_is_told(self):
        device, text = text_of([], room=2)
        file = text.file
        text.write([65, 66, 67])
        self.assertEqual(text.close(), None)
        self.assertEqual((device.content(), device.is_shut(), file.closed()), ([65, 66, 67], True, True))
        self.assertEqual((text.lost(), file.lost()), ([], []))

    def test_close_that_is_refused(self):
        for number, refusal in ((0, STALLED), (-7, FAULT_7)):
            device, text = text_of([], plan=[1, number, number], room=2)
            file = text.file
            text.write([65, 66, 67, 68, 69])
            self.assertEqual(outcome(text.close), refusal)
            self.assertEqual((device.content(), device.is_shut(), file.closed(), text.closed()), ([65], True, True, True))
            self.assertEqual(text.lost(), [66, 67, 68, 69])
            self.assertEqual(file.lost(), text.lost()[:len(file.lost())])
            text.lost().clear()
            self.assertEqual((text.lost(), text.close()), ([66, 67, 68, 69], None))

    def test_close_is_refused_just_where_something_is_lost(self):
        for plan in itertools.product((0, -7, 1, 2, 400), repeat=4):
            device, text = text_of([], plan=plan, room=2)
            text.write([65, 66, 67])
            answer = outcome(text.close)
            lost = text.lost()
            self.assertEqual(device.content() + lost, [65, 66, 67])
            cames = [came for _, _, _, came in device.log()]
            self.assertEqual(answer[0], "refused" if lost else "told")
            self.assertIn(answer, [told(None)] + [STALLED] * ("stall" in cames) + [FAULT_7] * ("fault" in cames))

    def test_detach_upon_a_raw_that_seeks(self):
        device, text = text_of([65, 13, 10, 66, 67], room=2)
        text.read(2)
        file, rest = text.detach()
        self.assertEqual((rest, file.tell(), file.closed(), text.closed()), ([], 3, False, True))
        self.assertEqual(file.read(), [66, 67])
        device, text = text_of([65])
        text.write([66, 67])
        file, rest = text.detach()
        self.assertEqual((rest, file.tell(), device.content(), text.lost()), ([], 2, [66, 67], []))

    def test_detach_upon_a_raw_that_does_not_seek(self):
        for row in ([65, 195, 169, 66, 67, 68, 69], [65, 195], [65]):
            for room in (1, 2, 8):
                device, text = text_of(row, plan=[2, 1, 0], seeks=False, writes=False, room=room)
                signs = text.read(1)
                file, rest = text.detach()
                self.assertEqual(signs, [65])
                self.assertEqual(rest + (file.read() or []) + (file.read() or []), row[1:])
                rest.clear()
                self.assertEqual((text.closed(), file.closed()), (True, False))

    def test_texts_upon_both_ends_of_a_pipe(self):
        pipe = Pipe(room=3)
        into = Text(File(pipe.into(), reads=False), code="turn", ends="both")
        out = Text(File(pipe.out(), writes=False), code="turn")
        self.assertEqual(into.write([300, 10, 301]), 3)
        self.assertEqual(out.read(), None)
        self.assertEqual(outcome(into.flush), STALLED)
        self.assertEqual(out.read(), [300])
        self.assertEqual(outcome(into.flush), STALLED)
        self.assertEqual(into.waiting(), [45])
        self.assertEqual(out.readline(), [10])
        into.close()
        self.assertEqual((out.read(), out.read()), ([301], []))
        out.close()

    def test_a_text_upon_a_broken_pipe(self):
        pipe = Pipe(room=3)
        into = Text(File(pipe.into(), reads=False))
        into.write([65])
        pipe.out().shut()
        self.assertEqual(outcome(into.close), refused("Fault", number=99, taken=0))
        self.assertEqual(into.lost(), [65])

    def test_reading_words_of_asks_end_at_the_first_stall(self):
        device, text = text_of([65] * 9, plan=[3, 0, 3, 0], room=3)
        self.assertEqual(words_of(asks_of(device, text.read)[1]), ["take", "take"])


if __name__ == "__main__":
    unittest.main()
