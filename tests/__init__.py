"""The tests of Clockloom."""
