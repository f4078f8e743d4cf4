"""Lentloft: files that share what they hold."""
