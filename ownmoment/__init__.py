"""Ownmoment: rows of things that order themselves, each by one moment of its own past."""
