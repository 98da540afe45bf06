"""Tonguerank: rankings of wishes that choose how a word is said."""
