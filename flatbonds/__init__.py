"""Flatbonds: webs that are laid flat."""
