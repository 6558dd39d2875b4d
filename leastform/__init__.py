"""Leastform: forms read off samples."""
