"""Onescore: one text of a talk, made into a program for each end."""
