"""The examples of DOC.md give what the document shows."""

import doctest


def load_tests(loader, tests, pattern):
    tests.addTests(doctest.DocFileSuite("examples.txt"))
    return tests
