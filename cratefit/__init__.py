"""Cratefit: rectangles in a box, shown or barred."""
