"""Foreknown: what is known ahead is done ahead."""
