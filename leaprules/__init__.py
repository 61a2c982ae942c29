"""Leaprules: rules of divisors, like those of leap years."""
