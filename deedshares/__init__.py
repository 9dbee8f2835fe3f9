"""What watched shares tell of deeds, in spite of hidden common causes."""
