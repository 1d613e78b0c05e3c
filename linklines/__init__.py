"""Linklines: what every line of files links to."""
