"""Packings, and the rules that make them."""
