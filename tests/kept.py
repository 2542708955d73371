"""That nothing handed in is changed or kept, and that a told list is the asker's own ([1])."""

import copy


class NothingKept:
    """Tests over CALLS, pairs of a def and the list of its arguments; a test case inherits them."""

    CALLS = []

    def test_what_was_handed_in_is_as_it_was(self):
        for one, arguments in self.CALLS:
            handed = copy.deepcopy(arguments)
            one(*handed)
            self.assertEqual(handed, arguments, one.__name__)

    def test_a_change_of_a_told_list_changes_nothing_else(self):
        for one, arguments in self.CALLS:
            handed = copy.deepcopy(arguments)
            told = one(*handed)
            if isinstance(told, list):
                first_answer = list(told)
                told.append(None)
                told.reverse()
                self.assertEqual(handed, arguments, one.__name__)
                self.assertEqual(one(*handed), first_answer, one.__name__)
                self.assertEqual(one(*copy.deepcopy(arguments)), first_answer, one.__name__)

    def test_a_later_change_of_what_was_handed_in_changes_no_answer(self):
        for one, arguments in self.CALLS:
            handed = copy.deepcopy(arguments)
            told = one(*handed)
            first_answer = copy.deepcopy(told)
            for rows in handed:
                if isinstance(rows, list):
                    rows.append(None)
                    rows.reverse()
            self.assertEqual(told, first_answer, one.__name__)
            self.assertEqual(one(*copy.deepcopy(arguments)), first_answer, one.__name__)
