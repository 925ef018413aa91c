"""Smalti: which stones of a mended mosaic are old."""
