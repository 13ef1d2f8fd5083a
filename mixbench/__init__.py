"""Mixbench: rows of tones mixed in exact steps."""
