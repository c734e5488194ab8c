"""The names, arguments and files of the interface, as far as it has landed."""

import importlib
import inspect
import unittest

INTERFACE = {
    "contents": (
        "is_link(value); is_event(value); is_run(value); is_far_run(value); is_contents(link, value); is_sound(link); "
        "empty(link, bit); is_even(link, contents); old_copies(link, contents, bit); answers(link, contents, bit); "
        "mirrored(link, contents); mirrored_event(event); far_of(run); spread_out(run)"),
    "texts": (
        "text_of_link(link); text_of_contents(link, contents); text_of_far(run); link_of_text(text); "
        "contents_of_text(link, text); far_of_text(text)"),
    "steps": (
        "possible_events(link, contents); is_possible(link, contents, value); behind(link, contents, event); "
        "wrong_step(link, contents, event); leading_to(link, contents, other); ends_turn(link, contents, event); "
        "hands_out(link, contents, event)"),
}


class Interface(unittest.TestCase):
    def test_names_arguments_and_files(self):
        for name, told in INTERFACE.items():
            module = importlib.import_module("healwires." + name)
            for entry in told.split("; "):
                function = getattr(module, entry.partition("(")[0])
                self.assertEqual(function.__name__ + str(inspect.signature(function)), entry)
                self.assertEqual(function.__module__, module.__name__)


if __name__ == "__main__":
    unittest.main()
