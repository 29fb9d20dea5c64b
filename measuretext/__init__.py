"""A surface language with measures, read to core terms. The calls stand in measuretext.terms."""
