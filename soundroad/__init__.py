"""Soundroad: sounds in pieces over a late road."""
