"""What the tests of several modules share: odd values, and how an error is looked at."""

import copy

from tacthouse.errors import TactError

# Values of many kinds, none of which is an integer or a tuple of some sort that a point describes.
ODD = (None, True, False, "", "0", "block", b"", (), [], {}, [0], (None,), ("",), ((),), ("block",), object(), {0: 1}, set())
NO_INTEGERS = (None, True, False, "", "0", b"0", (), [], (0,), [0], {}, object())


class Refusing:
    """Looks at the errors of calls; a mixin for test cases."""

    def refused(self, error, field, call, *args, **named):
        """The call raises this very class, with this value in its one field."""
        # Odd objects have no copies that are equal to them.
        before = [copy.deepcopy(arg) if isinstance(arg, (list, dict, tuple)) else arg for arg in args]
        with self.assertRaises(error) as caught:
            call(*args, **named)
        self.assertIs(type(caught.exception), error, (call, args))
        fields = vars(caught.exception)
        self.assertEqual(len(fields), 1)
        found = list(fields.values())[0]
        self.assertEqual((type(found), found), (type(field), field), (call, args))
        if issubclass(error, TactError):
            self.assertIn(list(fields)[0], ("place", "value"))
        return before

    def same(self, call, *args):
        """What a call tells; that an equal call tells the same, and leaves its arguments as they are."""
        before = repr(args)
        told = call(*args)
        self.assertEqual(call(*copy.deepcopy(args)), told)
        self.assertEqual(repr(args), before)
        return told
