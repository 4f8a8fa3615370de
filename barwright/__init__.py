"""Barwright: a setter of notes."""
