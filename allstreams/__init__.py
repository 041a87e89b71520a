"""Allstreams: texts of boxes for endless streams at several paces, and what they are for all streams."""
