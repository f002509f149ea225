"""Courses of a part as numbers."""
