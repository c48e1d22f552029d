"""Towbarges: barges that share tows down a river."""
