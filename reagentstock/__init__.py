"""A laboratory's stock: lots of reagents, and the doses that are asked of them."""
