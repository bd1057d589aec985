"""The tests of stylefall."""
