import unittest

from lookvoice import errors

FIELDS = {
    "BadName": "name", "Twice": "name", "TooMany": None, "UnknownNote": "note", "UnknownPair": "pair",
    "BadRule": "rule", "BadLine": "number", "BadPlace": "place", "SizeMismatch": None, "BadAhead": "ahead",
    "BadWindow": None, "NoAnswer": None, "NoMove": None, "Silent": "voice",
}

VALUES = {
    "name": ["", "a", "no note", "\u00e9"], "note": ["x"], "pair": [("a", "b")], "rule": [(), ("pair", "a", "b")],
    "number": [1, 20], "place": [-1, 0, 17], "ahead": [-1, 7], "voice": [["a", "b"], [], ("a", "b")],
}


def made(word, value):
    return getattr(errors, word)(value)


class ErrorClasses(unittest.TestCase):
    def test_there_are_fourteen_and_their_base(self):
        defined = [word for word, value in vars(errors).items() if isinstance(value, type)]
        self.assertEqual(sorted(defined), sorted(list(FIELDS) + ["VoiceError"]))
        self.assertEqual(len(FIELDS), 14)

    def test_each_stands_directly_under_voice_error(self):
        self.assertEqual(errors.VoiceError.__bases__, (ValueError,))
        for word in FIELDS:
            self.assertEqual(getattr(errors, word).__bases__, (errors.VoiceError,), word)

    def test_each_is_none_of_the_others(self):
        for word in FIELDS:
            for other in FIELDS:
                below = issubclass(getattr(errors, word), getattr(errors, other))
                self.assertEqual(below, word == other)

    def test_each_is_defined_in_its_file(self):
        for word in list(FIELDS) + ["VoiceError"]:
            self.assertEqual(getattr(errors, word).__module__, "lookvoice.errors")


class ErrorFields(unittest.TestCase):
    def test_field_by_position_and_by_name(self):
        for word, field in FIELDS.items():
            for value in VALUES.get(field, []):
                self.assertEqual(getattr(made(word, value), field), value)
                named = getattr(errors, word)(**{field: value})
                self.assertEqual(vars(named), {field: value})

    def test_errors_without_a_field(self):
        for word in [word for word, field in FIELDS.items() if field is None]:
            error = getattr(errors, word)()
            self.assertEqual(vars(error), {})
            self.assertIsInstance(error, ValueError)

    def test_each_can_be_raised_and_caught_as_its_bases(self):
        for word, field in FIELDS.items():
            error = getattr(errors, word)() if field is None else made(word, VALUES[field][0])
            for base in (getattr(errors, word), errors.VoiceError, ValueError):
                with self.assertRaises(base) as caught:
                    raise error
                self.assertIs(caught.exception, error)

    def test_silent_copies_the_list(self):
        voice = ["a", "b"]
        error = errors.Silent(voice)
        voice.append("c")
        self.assertEqual(error.voice, ["a", "b"])


if __name__ == "__main__":
    unittest.main()
