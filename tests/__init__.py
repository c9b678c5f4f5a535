"""The tests of the program."""
