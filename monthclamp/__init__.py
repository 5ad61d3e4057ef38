"""Monthclamp: lists of month steps and what they do to dates."""
