"""Linkorder: one command line that links every program."""
