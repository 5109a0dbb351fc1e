"""Dueturns: turns dealt by shares, kept fair through time."""
