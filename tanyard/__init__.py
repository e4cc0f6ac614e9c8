"""Countercurrent exchange between liquor and lots."""
