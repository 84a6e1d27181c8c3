"""Tests of the program."""
