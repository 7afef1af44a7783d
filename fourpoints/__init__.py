"""Fourpoints: curves of many samples drawn in few columns."""
