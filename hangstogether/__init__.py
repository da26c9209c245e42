"""Hangstogether: a weaving house."""
