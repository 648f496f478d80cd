"""Remadedays: which days must be made again, which stay wrong for good."""
