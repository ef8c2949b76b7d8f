"""Gapwords: equations between rows of signs with unknowns."""
