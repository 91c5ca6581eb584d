"""Cupweb: webs of faces, their rings and cuts, and a loft that keeps them."""
