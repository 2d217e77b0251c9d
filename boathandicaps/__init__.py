"""Handicaps: corrected times and the order of boats of unlike speed."""
