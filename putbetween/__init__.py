"""Putbetween: names that tell who stands ahead."""
