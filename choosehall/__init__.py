"""Choosehall: an office that gives places."""
