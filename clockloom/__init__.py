"""Clockloom: rows of worths by equations, woven into one loop."""
