"""Frameshare: rooms of a frame shared by things that live apart."""
