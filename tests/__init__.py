"""The tests of roundlist."""
