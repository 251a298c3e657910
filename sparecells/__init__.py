"""sparecells: an image made into another one in its own cells, cut anywhere."""
