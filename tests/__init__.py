"""The tests of towbarges."""
