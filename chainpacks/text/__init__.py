"""Texts of values, and a shell that works on a bench."""
