"""Allmeet: settings told by many hands."""
