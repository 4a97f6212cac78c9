"""Lostseat: exact shares of guests on seats, when some have lost their tickets."""
