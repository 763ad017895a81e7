"""Zones joined by lines: a market cleared. The way in is answers, in the module market."""
