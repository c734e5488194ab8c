import unittest

from healwires.contents import empty, is_contents
from healwires.errors import InvalidContents, InvalidLink, InvalidRun, InvalidText
from healwires.texts import (
    contents_of_text, far_of_text, link_of_text, text_of_contents, text_of_far, text_of_link,
)
from model import (
    BAD_CONTENTS, BAD_FARS, BAD_LINKS, ODD_VALUES, all_contents, all_events, check_errors, check_unchanged,
    shares_lists,
)

LINK = (3, 2, 4, 4)
MIXED = ((0, 2), (1, ("old", 3), True), (1, 0, 2), (0, 1))
FAR = [([("send",), ("bring", "new")], 3), ([("hear", 1)], 0), ([("send",)], 1)]
FAR_TEXT = "send + bring new x3, hear 1 x0, send"
NO_TEXTS = [value for value in ODD_VALUES if value not in ("", "3 2 4 4", "send")] + ["\n", "\t", " "]


def spoilt(text):
    """Strings with one sign put in, left out or exchanged, or two neighbouring ones changed over."""
    signs = " 01x9|,+aden-_\t\n."
    found = []
    for at in range(len(text) + 1):
        found += [text[:at] + sign + text[at:] for sign in signs]
        found += [text[:at] + sign + text[at + 1:] for sign in signs]
        found.append(text[:at] + text[at + 1:])
        found.append(text[:at] + text[at + 1:at + 2] + text[at:at + 1] + text[at + 2:])
    return [other for other in found if other != text]


class Texts(unittest.TestCase):
    """Point 7."""

    def test_the_examples_of_the_document(self):
        self.assertEqual(
            [text_of_link(LINK), text_of_contents(LINK, MIXED), text_of_contents(LINK, empty(LINK, 1)),
             text_of_far(FAR), text_of_far([])],
            ["3 2 4 4", "0 2 | 1 old 3 done | 1 0 2 | 0 1", "1 0 | 0 none open | 0 0 0 | 0 0", FAR_TEXT, ""])
        self.assertEqual(
            [link_of_text("1 1 1 1"), contents_of_text(LINK, "0 2 | 1 old 3 done | 1 0 2 | 0 1") == MIXED,
             far_of_text("miss 0 + send, drop zero x12")],
            [(1, 1, 1, 1), True, [([("miss", 0), ("send",)], 1), ([("drop", "zero")], 12)]])

    def test_there_and_back(self):
        for link in ((1, 1, 1, 1), (2, 1, 3, 2), (10 ** 29, 10 ** 30 - 1, 7, 10 ** 20)):
            self.assertEqual(link_of_text(text_of_link(link)), link)
        for link in ((1, 1, 1, 1), (2, 1, 2, 2)):
            for contents in all_contents(link):
                self.assertEqual(contents_of_text(link, text_of_contents(link, contents)), contents)
        for far in (FAR, [], [(all_events(), 10 ** 99)], [([event], 2) for event in all_events()], FAR * 20):
            self.assertEqual(far_of_text(text_of_far(far)), far)

    def test_great_contents(self):
        link = (10 ** 29, 10 ** 29, 10 ** 29, 10 ** 29)
        contents = ((1, 10 ** 29 - 1), (0, ("new", 10 ** 29 - 1), False), (10 ** 29 - 1, 0, 1), (0, 10 ** 29))
        nines, nought = "9" * 29, "1" + "0" * 29
        text = f"1 {nines} | 0 new {nines} open | {nines} 0 1 | 0 {nought}"
        self.assertEqual(text_of_contents(link, contents), text)
        self.assertEqual(contents_of_text(link, text), contents)

    def test_each_event(self):
        for event in all_events():
            text = " ".join(str(part) for part in event)
            self.assertEqual(text_of_far([([event], 1)]), text)
            self.assertEqual(far_of_text(text), [([event], 1)])

    def test_a_hundred_figures_and_one_more(self):
        hundred, more = "9" * 100, "1" + "0" * 100
        self.assertEqual(link_of_text(f"{hundred} 1 1 1"), (10 ** 100 - 1, 1, 1, 1))
        self.assertEqual(far_of_text(f"send x{hundred}"), [([("send",)], 10 ** 100 - 1)])
        self.assertEqual(text_of_far([([("send",)], 10 ** 100 - 1)]), f"send x{hundred}")
        link = (10 ** 100 - 1,) * 4
        text = f"0 {'8' * 100} | 1 old {'8' * 100} done | 0 0 {hundred} | {hundred} 0"
        self.assertEqual(text_of_contents(link, contents_of_text(link, text)), text)
        for refused in (f"{more} 1 1 1", f"1 1 1 {more}"):
            self.refuse(link_of_text, refused)
        self.refuse(far_of_text, f"send x{more}")
        self.refuse(far_of_text, f"send x{more * 50}")
        greater = (10 ** 102,) * 4
        for refused in (
            f"0 {more} | 1 none done | 0 0 0 | 0 0", f"0 0 | 1 old {more} done | 0 0 0 | 0 0",
            f"0 0 | 1 none done | 0 {more} 0 | 0 0", f"0 0 | 1 none done | 0 0 0 | 0 {more}",
        ):
            self.refuse(lambda text: contents_of_text(greater, text), refused)

    def refuse(self, function, text):
        with self.assertRaises(InvalidText) as caught:
            function(text)
        self.assertIs(caught.exception.value, text)

    def test_no_links(self):
        for text in (
            "", "send", "1 1 1", "1 1 1 1 1", "0 1 1 1", "1 1 1 0", "01 1 1 1", "1 1 1 00", "1  1 1 1", " 1 1 1 1",
            "1 1 1 1 ", "1 1 1 1\n", "1\t1 1 1", "-1 1 1 1", "+1 1 1 1", "1_0 1 1 1", "1 1 1 1.", "(1, 1, 1, 1)",
            "1,1,1,1", "1 1 1 a", "0x1 1 1 1",
        ):
            self.refuse(link_of_text, text)

    def test_no_contents(self):
        for text in (
            "", "0 2", "0 2 | 1 old 3 done | 1 0 2", "0 2 | 1 old 3 done | 1 0 2 | 0 1 | 0",
            "00 2 | 1 old 3 done | 1 0 2 | 0 1",
            "0 02 | 1 old 3 done | 1 0 2 | 0 1", "0 2 | 1 old 03 done | 1 0 2 | 0 1", "0 2|1 old 3 done|1 0 2|0 1",
            "0 2 | 1 old done | 1 0 2 | 0 1", "0 2 | 1 none 3 done | 1 0 2 | 0 1", "0 2 | 1 None done | 1 0 2 | 0 1",
            "0 2 | 1 old 3 Done | 1 0 2 | 0 1", "0 2 | 1 old 3 True | 1 0 2 | 0 1", "0 2 | 1 old 0 done | 1 0 2 | 0 1",
            "0 2 | 1 old 4 done | 1 0 2 | 0 1", "0 4 | 1 old 3 done | 1 0 2 | 0 1", "0 2 | 0 new 3 done | 1 0 2 | 0 1",
            "0 2 | 1 old 3 done | 1 1 2 | 0 1", "0 2 | 1 old 3 done | 1 0 2 | 2 1", "2 2 | 1 old 3 done | 1 0 2 | 0 1",
            "0 2 | 2 old 3 done | 1 0 2 | 0 1", "0 2 | 1 old 3 3 done | 1 0 2 | 0 1", "0 2 | 1 done | 1 0 2 | 0 1",
            "0 2 | done | 1 0 2 | 0 1", " 0 2 | 1 old 3 done | 1 0 2 | 0 1", "0 2 | 1 old 3 done | 1 0 2 | 0 1 ",
            "0 2 | 1 old 3 done | 1 0 2 | 0 1\n", "0 2 |  1 old 3 done | 1 0 2 | 0 1", "0 2 | | 1 0 2 | 0 1",
        ):
            self.refuse(lambda other: contents_of_text(LINK, other), text)

    def test_no_far_runs(self):
        for text in (
            " ", ",", ", ", "x3", "send x1", "send x", "send x03", "send x-1", "send x3 ", "send x3, ", ", send",
            "send,send", "send ,send", "send  x3", "send x 3", "send x3 x4", "send X3", "send + ", " + send",
            "send+send", "send +send", "send x3 + send", "drop", "drop old", "drop 0", "hear", "hear 2", "hear zero",
            "hear 00", "hear 01", "send 0", "Send", "send\n", "send\t", "send, , send", "send x3,, send", "send x1_0",
            "hear  0", "double new", "repeat 0", "send x+3", "send x3.",
        ):
            self.refuse(far_of_text, text)

    def test_no_other_string_is_a_text(self):
        for function, back, text in (
            (link_of_text, text_of_link, "3 12 4 10"),
            (lambda other: contents_of_text(LINK, other), lambda told: text_of_contents(LINK, told),
             "0 2 | 1 old 3 done | 1 0 2 | 0 1"),
            (lambda other: contents_of_text(LINK, other), lambda told: text_of_contents(LINK, told),
             "1 0 | 1 none open | 0 0 0 | 2 0"),
            (far_of_text, text_of_far, "send + bring new x30, hear 1 x0, send, miss 0, drop zero x10"),
        ):
            for other in spoilt(text):
                try:
                    told = function(other)
                except InvalidText as error:
                    self.assertIs(error.value, other)
                else:
                    self.assertEqual(back(told), other)

    def test_errors(self):
        links, contents = (InvalidLink, BAD_LINKS), (InvalidContents, BAD_CONTENTS)
        texts = (InvalidText, NO_TEXTS)
        check_errors(self, text_of_link, ["link"], [LINK], [links])
        check_errors(self, text_of_contents, ["link", "contents"], [LINK, MIXED], [links, contents])
        check_errors(self, text_of_far, ["run"], [FAR], [(InvalidRun, BAD_FARS)])
        check_errors(self, link_of_text, ["text"], ["1 1 1 1"], [texts])
        check_errors(self, far_of_text, ["text"], [FAR_TEXT], [texts])
        check_errors(
            self, contents_of_text, ["link", "text"], [LINK, text_of_contents(LINK, MIXED)], [links, texts])

    def test_contents_of_another_link_have_no_text_here(self):
        contents = ((0, 0), (1, None, False), (2, 0, 0), (0, 0))
        text = text_of_contents((2, 1, 1, 1), contents)
        self.assertTrue(is_contents(LINK, contents))
        self.refuse(lambda other: contents_of_text((1, 1, 1, 1), other), text)

    def test_new_lists(self):
        check_unchanged(self, text_of_far, [([("send",)], 2)])
        first, second = far_of_text("send, send x2"), far_of_text("send, send x2")
        self.assertFalse(shares_lists(first, second))


if __name__ == "__main__":
    unittest.main()
