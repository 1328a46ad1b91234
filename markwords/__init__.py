"""Markwords: worths kept in words."""
