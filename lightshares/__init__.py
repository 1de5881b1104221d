"""Lightshares: shades as exact shares of three lights."""
