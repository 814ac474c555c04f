"""Standingpowers: equations over small primes, solved with papers."""
