"""Dropframes: films of machines, frames left out."""
