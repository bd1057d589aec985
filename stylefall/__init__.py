"""Stylefall: styled text that looks as it should on every terminal."""
