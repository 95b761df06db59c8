"""Clonewood: a wood of files in pieces that many makes share."""
