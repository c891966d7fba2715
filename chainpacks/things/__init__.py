"""Lots of things, and stores of rooms."""
